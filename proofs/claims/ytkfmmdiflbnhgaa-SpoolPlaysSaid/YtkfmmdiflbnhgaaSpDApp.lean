/-
  Layer 13's document: its Append.
-/
import Derived.Test.YtkfmmdiflbnhgaaSpDOpen
import Derived.Test.YtkfmmdiflbnhgaaSgpC
import Derived.Test.YtkfmmdiflbnhgaaInA
import Derived.Deep.CutBlock
namespace Go.Proofs.Ytkfmmdiflbnhgaa
set_option maxRecDepth 100000
open Go.RowKit
open Knot (Turns NewRow)
open Ta (IsBytes Stay sec nul tSec Tray IsD Grow C5 tTr st5)
namespace Sp
abbrev nilV : Value := .slice none 0 0
abbrev zS : S := ⟨0, 0, 0, 0, 0, false⟩
/-- The document's Append under way: its four boxes (tray, spool, both results), its lists, that stay whatever of G turns. -/
structure Da (F G : Nat → Prop) (w x : World) (A B C D n : Nat) (kv cv : Value) (t : Tray (List UInt8)) (s : S) : Prop where
  below : Below w.heap.size w x
  tr : C5 A tTr (.int .i64 (n : Int)) kv cv (.int .i64 t.left) (.bool t.dark) x
  sp : DsB x B s
  r6 : C5 C tTr (.int .i64 0) nilV nilV (.int .i64 0) (.bool false) x
  r7 : DsB x D zS
  ord : w.heap.size ≤ A ∧ A < B ∧ B < C ∧ C < D
  box : G A ∧ G B ∧ G C ∧ G D
  low : ∀ k, G k → k < x.heap.size
  sub : ∀ k, F k → G k
  dk : Stay G x fun y => Ta.IsW y kv t.kept
  dc : Stay G x fun y => Ta.IsW y cv t.cache
  left : -1 ≤ t.left ∧ t.left ≤ 1099511627776
section
variable {F G : Nat → Prop} {w x y : World} {A B C D n : Nat} {kv cv kv' cv' : Value} {t t' : Tray (List UInt8)} {s s' : S}
theorem Da.on (h : Da F G w x A B C D n kv cv t s) (hb : Below x.heap.size x y) : Da F G w y A B C D n kv cv t s :=
  ⟨h.below.trans (hb.mono h.below.size), h.tr.on hb, h.sp.on hb, h.r6.on hb, h.r7.on hb, h.ord, h.box, fun k hk => Nat.lt_of_lt_of_le (h.low k hk) hb.size, h.sub, h.dk.below hb, h.dc.below hb, h.left⟩
theorem Da.isD (h : Da F G w x A B C D n kv cv t s) : IsD G x (Ta.trV (n : Int) kv cv t.left t.dark) n t := ⟨kv, cv, rfl, h.dk, h.dc⟩
/-- Another tray is laid into its box. -/
theorem Da.lay (h : Da F G w x A B C D n kv cv t s) (hk : Stay G x fun y => Ta.IsW y kv' t'.kept) (hc : Stay G x fun y => Ta.IsW y cv' t'.cache) (hl : -1 ≤ t'.left ∧ t'.left ≤ 1099511627776) :
    Da F G w (st5 x A (.int .i64 (n : Int)) kv' cv' (.int .i64 t'.left) (.bool t'.dark)) A B C D n kv' cv' t' s := by
  have ht := Ta.st5_turns x A (.int .i64 (n : Int)) kv' cv' (.int .i64 t'.left) (.bool t'.dark)
  have ho := h.ord
  have htG : Turns G x (st5 x A (.int .i64 (n : Int)) kv' cv' (.int .i64 t'.left) (.bool t'.dark)) := ht.mono fun k _ e => by rw [e]; exact h.box.1
  exact ⟨h.below.trans (ht.below h.below.size fun k e => by omega), h.tr.put _ _ _ _ _, h.sp.turn ht (by omega), h.r6.turn ht (by omega), h.r7.turn ht (by omega), h.ord, h.box, fun k hk => Nat.lt_of_lt_of_le (h.low k hk) ht.size, h.sub, hk.turn htG, hc.turn htG, hl⟩
/-- A cell of the spool's box is stored. -/
theorem Da.cell (h : Da F G w x A B C D n kv cv t s) (j : Nat) (v : Value) (hs : dsC s' = (dsC s).setIfInBounds j v) : Da F G w (x.setCell ⟨B, j, none⟩ v) A B C D n kv cv t s' := by
  have ht := turn1 x B j v
  have ho := h.ord
  have htG : Turns G x (x.setCell ⟨B, j, none⟩ v) := ht.mono fun k _ e => by rw [e]; exact h.box.2.1
  refine ⟨h.below.trans (ht.below h.below.size fun k e => by omega), h.tr.turn ht (by omega), ?_, h.r6.turn ht (by omega), h.r7.turn ht (by omega), h.ord, h.box, fun k hk => Nat.lt_of_lt_of_le (h.low k hk) ht.size, h.sub, h.dk.turn htG, h.dc.turn htG, h.left⟩
  unfold DsB
  rw [h.sp.set j v, hs]
/-- Both results are laid: the first, then the second. -/
theorem Da.done (h : Da F G w x A B C D n kv cv t s) : Turns (fun k => k = C ∨ k = D) x (st5 x C (.int .i64 (n : Int)) kv cv (.int .i64 t.left) (.bool t.dark)) ∧ C5 C tTr (.int .i64 (n : Int)) kv cv (.int .i64 t.left) (.bool t.dark) (st5 x C (.int .i64 (n : Int)) kv cv (.int .i64 t.left) (.bool t.dark)) ∧ DsB (st5 x C (.int .i64 (n : Int)) kv cv (.int .i64 t.left) (.bool t.dark)) D zS := by
  have ht := Ta.st5_turns x C (.int .i64 (n : Int)) kv cv (.int .i64 t.left) (.bool t.dark)
  have ho := h.ord
  exact ⟨ht.mono fun _ _ e => .inl e, h.r6.put _ _ _ _ _, h.r7.turn ht (by omega)⟩
theorem Da.both (h : Da F G w x A B C D n kv cv t s) (ht : Turns (fun k => k = C ∨ k = D) x y) (hC : C5 C tTr (.int .i64 (n : Int)) kv cv (.int .i64 t.left) (.bool t.dark) y) (hD : DsB y D zS) :
    Turns (fun k => k = C ∨ k = D) x (st6 y D s) ∧ C5 C tTr (.int .i64 (n : Int)) kv cv (.int .i64 t.left) (.bool t.dark) (st6 y D s) ∧ DsB (st6 y D s) D s ∧ Below w.heap.size w (st6 y D s) ∧ IsD F (st6 y D s) (Ta.trV (n : Int) kv cv t.left t.dark) n t := by
  have h6 := st6_turns y D s
  have ho := h.ord
  have h7 : Turns (fun k => k = C ∨ k = D) x (st6 y D s) := ht.trans h6 fun _ _ e => .inr e
  have htG : Turns G x (st6 y D s) := h7.mono fun k _ e => by rcases e with e | e <;> rw [e]; exact h.box.2.2.1; exact h.box.2.2.2
  exact ⟨h7, hC.turn h6 (by omega), hD.put s, h.below.trans (h7.below h.below.size fun k e => by omega), kv, cv, rfl, h.dk.grow htG fun k _ hk => h.sub k hk, h.dc.grow htG fun k _ hk => h.sub k hk⟩
end
theorem chunk_slice2 {w : World} {v : Value} {b : List UInt8} (h : IsBytes w v b) (k : Nat) (hk : k * 108 ≤ b.length) (_hb : b.length ≤ 60000) :
    ∃ a' c', (∀ W : World, (Instr.sliceAt 22 v (some (.int .i64 ((k : Int) * 108))) (some (.int .i64 ((min (k * 108 + 108) b.length : Nat) : Int))) none).run Try.prog W = .ok (.slice a' (chunk b k).length c') W) ∧
      ∀ y, IsBytes y v b → IsBytes y (.slice a' (chunk b k).length c') (chunk b k) := by
  obtain ⟨ao, cap, rfl, h1, h2, h3⟩ := h
  have hz : ∀ W, (sizeOf (Try.prog.elem 22)).run Try.prog W = .ok 1 W := fun w => by kernel_rfl
  have hel : Try.prog.underlying 22 = some (.slice (Try.prog.elem 22)) := by kernel_rfl
  have hcl := chunk_len b k
  rw [show (k + 1) * 108 = k * 108 + 108 by omega] at hcl
  refine ⟨if cap = k * 108 then ao else ao.map (·.add (k * 108 * 1)), cap - k * 108, fun W => ?_, fun y hy => ?_⟩
  · rw [run_sliceAt_slice (P := Try.prog) W _ _ _ _ _ hel, run_slice_lh (P := Try.prog) W _ ao b.length cap hel .i64 .i64 ((k : Int) * 108) _ (by omega) (by omega) (by omega), hz]
    simp only [Result.andThen_ok, sliced]
    rw [show ((k : Int) * 108).toNat = k * 108 by omega, Int.toNat_natCast, hcl]
  · obtain ⟨ao', cap', e, g1, g2, g3⟩ := hy
    obtain ⟨rfl, -, rfl⟩ := Value.slice.inj e
    refine ⟨_, _, rfl, by omega, Nat.le_trans (by omega) g2, fun hne => ?_⟩
    obtain ⟨g, o, rfl, hc⟩ := g3 (by omega)
    rw [if_neg (by omega)]
    refine ⟨g, o + k * 108, by simp [Tr.addp], fun j u hj => ?_⟩
    have hj' := (List.getElem?_eq_some_iff.1 hj).1
    rw [Lib.byteCells_length] at hj'
    have hjb : k * 108 + j < b.length := by omega
    rw [Nat.add_assoc]
    refine hc (k * 108 + j) u ?_
    rw [← hj]
    have h108 : j < 108 := by have := chunk_le b k; omega
    simp [Lib.byteCells, chunk, h108]
set_option maxHeartbeats 32000000 in
set_option maxRecDepth 100000 in
theorem dapp_any (F : Nat → Prop) (n : Nat) (v bv : Value) (t : Tray (List UInt8)) (s : S) (b : List UInt8) (w : World) (hF : ∀ k, F k → k < w.heap.size) (h : IsD F w v n t) (hs : Fits s) (hn : s.first + s.count ≤ n) (hnn : n ≤ 4096) (hb : IsBytes w bv b) (hbl : b.length ≤ 1000000) (hl : -1 ≤ t.left ∧ t.left ≤ 1099511627776) (hz : t.kept.length + t.cache.length ≤ 50000) :
    Calls Try.prog 24 #[v, .agg (dsC s), bv] w fun e x => ∃ v', e = .returned (.tuple #[v', .agg (dsC (append s b t).2.1), .int .i64 (append s b t).2.2]) ∧ IsD F x v' n (append s b t).1 ∧ Below w.heap.size w x := by
  obtain ⟨kv, cv, rfl, hk, hc⟩ := h
  obtain ⟨ka, kq, rfl⟩ := hk.now.slice
  obtain ⟨ca, cq, rfl⟩ := hc.now.slice
  have HB := Lib.hid hb
  obtain ⟨bo, bq, rfl, -, -, -⟩ := hb
  obtain ⟨W, hW⟩ : ∃ W, W = (((w.alloc (.cells #[.int .i64 (n : Int), .slice ka t.kept.length kq, .slice ca t.cache.length cq, .int .i64 t.left, .bool t.dark] tTr)).alloc (.cells (dsC s) tDS)).alloc (.cells #[.int .i64 0, nilV, nilV, .int .i64 0, .bool false] tTr)).alloc (.cells (dsC zS) tDS) := ⟨_, rfl⟩
  have HDa := Lib.hid (show Da F (Grow F w W) w W w.heap.size (w.heap.size + 1) (w.heap.size + 1 + 1) (w.heap.size + 1 + 1 + 1) n (.slice ka t.kept.length kq) (.slice ca t.cache.length cq) t s from by
    generalize hX1 : w.alloc (.cells #[.int .i64 (n : Int), .slice ka t.kept.length kq, .slice ca t.cache.length cq, .int .i64 t.left, .bool t.dark] tTr) = X1 at hW
    have a1 : Below w.heap.size w X1 := by rw [← hX1]; exact (Below.refl _ _).alloc (Nat.le_refl _) _
    have c1 : C5 w.heap.size tTr (.int .i64 (n : Int)) (.slice ka t.kept.length kq) (.slice ca t.cache.length cq) (.int .i64 t.left) (.bool t.dark) X1 := by rw [← hX1]; exact heap_alloc_new w _
    have s1 : X1.heap.size = w.heap.size + 1 := by rw [← hX1]; simp
    generalize hX2 : X1.alloc (.cells (dsC s) tDS) = X2 at hW
    have a2 : Below X1.heap.size X1 X2 := by rw [← hX2]; exact (Below.refl _ _).alloc (Nat.le_refl _) _
    have c2 : DsB X2 (w.heap.size + 1) s := by rw [← hX2, ← s1]; exact heap_alloc_new X1 _
    have s2 : X2.heap.size = w.heap.size + 1 + 1 := by rw [← hX2]; simp [s1]
    generalize hX3 : X2.alloc (.cells #[.int .i64 0, nilV, nilV, .int .i64 0, .bool false] tTr) = X3 at hW
    have a3 : Below X2.heap.size X2 X3 := by rw [← hX3]; exact (Below.refl _ _).alloc (Nat.le_refl _) _
    have c3 : C5 (w.heap.size + 1 + 1) tTr (.int .i64 0) nilV nilV (.int .i64 0) (.bool false) X3 := by rw [← hX3, ← s2]; exact heap_alloc_new X2 _
    have s3 : X3.heap.size = w.heap.size + 1 + 1 + 1 := by rw [← hX3]; simp [s2]
    have a4 : Below X3.heap.size X3 W := by rw [hW]; exact (Below.refl _ _).alloc (Nat.le_refl _) _
    have c4 : DsB W (w.heap.size + 1 + 1 + 1) zS := by rw [hW, ← s3]; exact heap_alloc_new X3 _
    have s4 : W.heap.size = w.heap.size + 1 + 1 + 1 + 1 := by rw [hW]; simp [s3]
    have b3 : Below X2.heap.size X2 W := a3.trans (a4.mono a3.size)
    have b2 : Below X1.heap.size X1 W := a2.trans (b3.mono a2.size)
    have b1 : Below w.heap.size w W := a1.trans (b2.mono a1.size)
    have hmk := hk.more (Turns.of_below b1)
    have hmc := hc.more (Turns.of_below b1)
    exact ⟨b1, c1.on b2, c2.on b3, c3.on a4, c4, ⟨Nat.le_refl _, by omega, by omega, by omega⟩, ⟨.inr ⟨by omega, by omega⟩, .inr ⟨by omega, by omega⟩, .inr ⟨by omega, by omega⟩, .inr ⟨by omega, by omega⟩⟩, fun k hk => hk.elim (fun hk => by have := hF k hk; omega) fun hk => hk.2, fun k hk => .inl hk, hmk, hmc, hl⟩)
  have HSf := Lib.hid (And.intro hs (And.intro hn (And.intro hnn (And.intro hbl hz))))
  unfold Ta.trV dsC
  go_enter Try.func24, Try.ntmps24
  go_upto_region 1 with fail
  change Code.wp _ _ _ _ ((((w.alloc (.cells #[.int .i64 (n : Int), .slice ka t.kept.length kq, .slice ca t.cache.length cq, .int .i64 t.left, .bool t.dark] tTr)).alloc (.cells (dsC s) tDS)).alloc (.cells #[.int .i64 0, nilV, nilV, .int .i64 0, .bool false] tTr)).alloc (.cells (dsC zS) tDS))
  rw [← hW]
  have HWb := Lib.hid HDa.out.below
  generalize hG : Grow F w W = G at HDa
  clear hW hk hc hl hs hn hz hG
  generalize hA : w.heap.size = A at HDa ⊢
  generalize A + 1 = B at *
  generalize B + 1 = C at *
  generalize C + 1 = D at *
  go_cut [9] (fun v wx => v = .int .i64 (parts b.length : Nat) ∧ W = wx)
  case first =>
    have e : parts b.length = max 1 ((b.length + 107) / 108) := rfl
    by_cases h : (b.length + 107) / 108 ≤ 1
    · have h' : ((b.length : Int) + 107) / 108 ≤ 1 := by omega
      have e' : parts b.length = 1 := by omega
      have EP := Lib.hid e'
      clear h e e'
      go_wp2_with fail
      go_meet
      case rel => exact ⟨by rw [EP.out]; rfl, rfl⟩
    · have h' : 1 < ((b.length : Int) + 107) / 108 := by omega
      have e' : ((b.length : Int) + 107) / 108 = (parts b.length : Nat) := by omega
      clear h e
      have EP := Lib.hid e'
      clear e'
      go_wp2_with fail
      go_meet
      case rel => exact ⟨by rw [← EP.out], rfl⟩
  case rest =>
    obtain ⟨rfl, rfl⟩ := hcut
    by_cases g1 : 60000 < b.length
    · have e1 : (60000 : Int) < (b.length : Int) := by omega
      have HAp := Lib.hid (append_long (s := s) (t := t) g1)
      clear g1
      go_upto_region 3 with fail
      have HDr := Lib.hid (HDa.out.on (Below.refl W.heap.size W).drew)
      have HF := Lib.hid (show ∀ x, Turns (fun k => k = C ∨ k = D) W.drew x → (x.cell? ⟨A, 0, none⟩ = some (.int .i64 (n : Int)) ∧ x.cell? ⟨A, 1, none⟩ = some (.slice ka t.kept.length kq) ∧ x.cell? ⟨A, 2, none⟩ = some (.slice ca t.cache.length cq) ∧ x.cell? ⟨A, 3, none⟩ = some (.int .i64 t.left) ∧ x.cell? ⟨A, 4, none⟩ = some (.bool t.dark)) ∧ _ from fun x hx =>
        ⟨(HDr.out.tr.turn hx (by have := HDr.out.ord; omega)).cells, (HDr.out.sp.turn hx (by have := HDr.out.ord; omega)).cells⟩)
      refine Order.beginE (fun x => Turns (fun k => k = C ∨ k = D) W.drew x) [] (by kernel_rfl) ?_
      refine Order.readsE_any (idx := [0, 1]) (by kernel_rfl) (Turns.refl _ _) (fun _ _ _ _ _ h => Order.noPanic_put h) 3 _ _ (by decide +kernel) ?_
      simp only [Order.pick, List.getElem?_toArray, List.getElem?_cons_zero, List.getElem?_cons_succ]
      repeat (first
        | (refine Order.reads_off (by rfl) ?_
           simp only [Act.put, List.setIfInBounds_toArray, List.set_cons_zero, List.set_cons_succ])
        | (apply Order.reads_on
           · rfl
           · intro x hx
             first
               | (obtain ⟨⟨c0, c1, c2, c3, c4⟩, d0, d1, d2, d3, d4, d5⟩ := HF.out x hx
                  exact Order.load_at rfl rfl (by assumption))
               | (go_simp; rfl)
               | (obtain ⟨⟨c0, c1, c2, c3, c4⟩, d0, d1, d2, d3, d4, d5⟩ := HF.out x hx
                  go_simp; rfl)
           simp only [Act.put, List.setIfInBounds_toArray, List.set_cons_zero, List.set_cons_succ]))
      refine Order.reads_end ?_
      have HEZ := Lib.hid (Turns.refl (fun k => k = C ∨ k = D) W.drew)
      generalize W.drew = V at *
      have HDn := Lib.hid HDr.out.done
      obtain ⟨f0, f1, f2, f3, f4⟩ := HDr.out.r6.free
      obtain ⟨q0, q1, q2, q3, q4⟩ := HDr.out.r6.cells
      apply Order.actE (i := 2)
      · rfl
      · decide +kernel
      · rfl
      unfold Oper.wp
      go_simp
      obtain ⟨X5, hX5⟩ : ∃ x, x = st5 V C (.int .i64 (n : Int)) (.slice ka t.kept.length kq) (.slice ca t.cache.length cq) (.int .i64 t.left) (.bool t.dark) := ⟨_, rfl⟩
      rw [← hX5] at HDn
      unfold st5 at hX5
      rw [← hX5]
      refine ⟨HDn.out.1, ?_⟩
      clear f0 f1 f2 f3 f4 q0 q1 q2 q3 q4 hX5
      have HBo := Lib.hid (HDr.out.both HDn.out.1 HDn.out.2.1 HDn.out.2.2)
      have r0 := HDn.out.2.2.free 0
      have r1 := HDn.out.2.2.free 1
      have r2 := HDn.out.2.2.free 2
      have r3 := HDn.out.2.2.free 3
      have r4 := HDn.out.2.2.free 4
      have r5 := HDn.out.2.2.free 5
      obtain ⟨z0, z1, z2, z3, z4, z5⟩ := HDn.out.2.2.cells
      apply Order.actE (i := 3)
      · rfl
      · decide +kernel
      · rfl
      unfold Oper.wp
      go_simp
      obtain ⟨X6, hX6⟩ : ∃ x, x = st6 X5 D s := ⟨_, rfl⟩
      rw [← hX6] at HBo
      unfold st6 at hX6
      rw [← hX6]
      refine ⟨HBo.out.1, ?_⟩
      clear r0 r1 r2 r3 r4 r5 z0 z1 z2 z3 z4 z5 hX6
      refine Order.readsE_any (idx := [4]) (by kernel_rfl) HBo.out.1 (fun _ _ _ _ _ h => Order.noPanic_put h) 0 _ _ (by decide +kernel) ?_
      simp only [Order.pick, List.getElem?_toArray, List.getElem?_cons_zero, List.getElem?_cons_succ]
      repeat (first
        | (refine Order.reads_off (by rfl) ?_
           simp only [Act.put, List.setIfInBounds_toArray, List.set_cons_zero, List.set_cons_succ])
        | (apply Order.reads_on
           · rfl
           · intro x hx
             first
               | (go_simp; rfl)
               | (fail
                  go_simp; rfl)
           simp only [Act.put, List.setIfInBounds_toArray, List.set_cons_zero, List.set_cons_succ]))
      refine Order.reads_end ?_
      refine Order.doneE (by decide +kernel) ?_ _
      refine NoPanic.normal ?_
      go_wp2_with fail
      obtain ⟨g0, g1, g2, g3, g4⟩ := HBo.out.2.1.cells
      obtain ⟨i0, i1, i2, i3, i4, i5⟩ := HBo.out.2.2.1.cells
      refine bodyPost_ret (v := .tuple #[Ta.trV (n : Int) (.slice ka t.kept.length kq) (.slice ca t.cache.length cq) t.left t.dark, .agg (dsC s), .int .i64 1]) (by simp [results, Try.results24, go_sem, g0, g1, g2, g3, g4, i0, i1, i2, i3, i4, i5, dsC, Ta.trV]) rfl ⟨Ta.trV (n : Int) (.slice ka t.kept.length kq) (.slice ca t.cache.length cq) t.left t.dark, ?_, ?_, (by first | exact HBo.out.2.2.2.1 | exact hA ▸ HBo.out.2.2.2.1)⟩
      · rw [HAp.out]; rfl
      · rw [HAp.out]; exact HBo.out.2.2.2.2
    · have e1 : ¬ (60000 : Int) < (b.length : Int) := by omega
      have hpl : parts b.length ≤ 556 := by unfold parts; omega
      have hps : (parts b.length - 1) * 108 ≤ b.length := by unfold parts; omega
      have HPl := Lib.hid (And.intro g1 (And.intro hpl hps))
      clear hps
      obtain ⟨o, ho⟩ : ∃ o, o = parts b.length := ⟨_, rfl⟩
      rw [← ho] at HPl hpl ⊢
      have HO := Lib.hid ho
      clear ho
      obtain ⟨d0, d1, d2, d3, d4, d5⟩ := HDa.out.sp.cells
      have hfs := HSf.out.1
      obtain ⟨h1, h2, h3, h4, h5⟩ := hfs
      have w1 : IntKind.i64.wrap ((s.tail : Int) - (s.head : Int)) = (s.tail : Int) - (s.head : Int) := by rw [IntKind.wrap_i64] <;> omega
      have w2 : IntKind.i64.wrap ((s.count : Int) - ((s.tail : Int) - (s.head : Int))) = (s.count : Int) - ((s.tail : Int) - (s.head : Int)) := by rw [IntKind.wrap_i64] <;> omega
      by_cases g2 : s.count + s.head < o + s.tail
      · have e2 : (s.count : Int) - ((s.tail : Int) - (s.head : Int)) < (o : Int) := by omega
        have HAp := Lib.hid (append_full (t := t) HPl.out.1 (by rw [← HO.out]; exact g2))
        clear g1 g2
        go_upto_region 5 with fail
        clear d0 d1 d2 d3 d4 d5 e1 e2 w1 w2
        have HDr := Lib.hid (HDa.out.on (Below.refl W.heap.size W).drew)
        have HF := Lib.hid (show ∀ x, Turns (fun k => k = C ∨ k = D) W.drew x → (x.cell? ⟨A, 0, none⟩ = some (.int .i64 (n : Int)) ∧ x.cell? ⟨A, 1, none⟩ = some (.slice ka t.kept.length kq) ∧ x.cell? ⟨A, 2, none⟩ = some (.slice ca t.cache.length cq) ∧ x.cell? ⟨A, 3, none⟩ = some (.int .i64 t.left) ∧ x.cell? ⟨A, 4, none⟩ = some (.bool t.dark)) ∧ _ from fun x hx =>
          ⟨(HDr.out.tr.turn hx (by have := HDr.out.ord; omega)).cells, (HDr.out.sp.turn hx (by have := HDr.out.ord; omega)).cells⟩)
        refine Order.beginE (fun x => Turns (fun k => k = C ∨ k = D) W.drew x) [] (by kernel_rfl) ?_
        refine Order.readsE_any (idx := [0, 1]) (by kernel_rfl) (Turns.refl _ _) (fun _ _ _ _ _ h => Order.noPanic_put h) 3 _ _ (by decide +kernel) ?_
        simp only [Order.pick, List.getElem?_toArray, List.getElem?_cons_zero, List.getElem?_cons_succ]
        repeat (first
          | (refine Order.reads_off (by rfl) ?_
             simp only [Act.put, List.setIfInBounds_toArray, List.set_cons_zero, List.set_cons_succ])
          | (apply Order.reads_on
             · rfl
             · intro x hx
               first
                 | (obtain ⟨⟨c0, c1, c2, c3, c4⟩, d0, d1, d2, d3, d4, d5⟩ := HF.out x hx
                    exact Order.load_at rfl rfl (by assumption))
                 | (go_simp; rfl)
                 | (obtain ⟨⟨c0, c1, c2, c3, c4⟩, d0, d1, d2, d3, d4, d5⟩ := HF.out x hx
                    go_simp; rfl)
             simp only [Act.put, List.setIfInBounds_toArray, List.set_cons_zero, List.set_cons_succ]))
        refine Order.reads_end ?_
        have HEZ := Lib.hid (Turns.refl (fun k => k = C ∨ k = D) W.drew)
        generalize W.drew = V at *
        have HDn := Lib.hid HDr.out.done
        obtain ⟨f0, f1, f2, f3, f4⟩ := HDr.out.r6.free
        obtain ⟨q0, q1, q2, q3, q4⟩ := HDr.out.r6.cells
        apply Order.actE (i := 2)
        · rfl
        · decide +kernel
        · rfl
        unfold Oper.wp
        go_simp
        obtain ⟨X5, hX5⟩ : ∃ x, x = st5 V C (.int .i64 (n : Int)) (.slice ka t.kept.length kq) (.slice ca t.cache.length cq) (.int .i64 t.left) (.bool t.dark) := ⟨_, rfl⟩
        rw [← hX5] at HDn
        unfold st5 at hX5
        rw [← hX5]
        refine ⟨HDn.out.1, ?_⟩
        clear f0 f1 f2 f3 f4 q0 q1 q2 q3 q4 hX5
        have HBo := Lib.hid (HDr.out.both HDn.out.1 HDn.out.2.1 HDn.out.2.2)
        have r0 := HDn.out.2.2.free 0
        have r1 := HDn.out.2.2.free 1
        have r2 := HDn.out.2.2.free 2
        have r3 := HDn.out.2.2.free 3
        have r4 := HDn.out.2.2.free 4
        have r5 := HDn.out.2.2.free 5
        obtain ⟨z0, z1, z2, z3, z4, z5⟩ := HDn.out.2.2.cells
        apply Order.actE (i := 3)
        · rfl
        · decide +kernel
        · rfl
        unfold Oper.wp
        go_simp
        obtain ⟨X6, hX6⟩ : ∃ x, x = st6 X5 D s := ⟨_, rfl⟩
        rw [← hX6] at HBo
        unfold st6 at hX6
        rw [← hX6]
        refine ⟨HBo.out.1, ?_⟩
        clear r0 r1 r2 r3 r4 r5 z0 z1 z2 z3 z4 z5 hX6
        refine Order.readsE_any (idx := [4]) (by kernel_rfl) HBo.out.1 (fun _ _ _ _ _ h => Order.noPanic_put h) 0 _ _ (by decide +kernel) ?_
        simp only [Order.pick, List.getElem?_toArray, List.getElem?_cons_zero, List.getElem?_cons_succ]
        repeat (first
          | (refine Order.reads_off (by rfl) ?_
             simp only [Act.put, List.setIfInBounds_toArray, List.set_cons_zero, List.set_cons_succ])
          | (apply Order.reads_on
             · rfl
             · intro x hx
               first
                 | (go_simp; rfl)
                 | (fail
                    go_simp; rfl)
             simp only [Act.put, List.setIfInBounds_toArray, List.set_cons_zero, List.set_cons_succ]))
        refine Order.reads_end ?_
        refine Order.doneE (by decide +kernel) ?_ _
        refine NoPanic.normal ?_
        go_wp2_with fail
        obtain ⟨g0, g1, g2, g3, g4⟩ := HBo.out.2.1.cells
        obtain ⟨i0, i1, i2, i3, i4, i5⟩ := HBo.out.2.2.1.cells
        refine bodyPost_ret (v := .tuple #[Ta.trV (n : Int) (.slice ka t.kept.length kq) (.slice ca t.cache.length cq) t.left t.dark, .agg (dsC s), .int .i64 3]) (by simp [results, Try.results24, go_sem, g0, g1, g2, g3, g4, i0, i1, i2, i3, i4, i5, dsC, Ta.trV]) rfl ⟨Ta.trV (n : Int) (.slice ka t.kept.length kq) (.slice ca t.cache.length cq) t.left t.dark, ?_, ?_, (by first | exact HBo.out.2.2.2.1 | exact hA ▸ HBo.out.2.2.2.1)⟩
        · rw [HAp.out]; rfl
        · rw [HAp.out]; exact HBo.out.2.2.2.2
      · have e2 : ¬ (s.count : Int) - ((s.tail : Int) - (s.head : Int)) < (o : Int) := by omega
        rcases Bool.eq_false_or_eq_true s.dead with hdd | hdd
        · rw [hdd] at d5
          have HAp := Lib.hid (append_dead (t := t) HPl.out.1 (by rw [← HO.out]; exact g2) hdd)
          clear g1 g2 hdd
          go_upto_region 7 with fail
          clear d0 d1 d2 d3 d4 d5 e1 e2 w1 w2
          have HDr := Lib.hid (HDa.out.on (Below.refl W.heap.size W).drew)
          have HF := Lib.hid (show ∀ x, Turns (fun k => k = C ∨ k = D) W.drew x → (x.cell? ⟨A, 0, none⟩ = some (.int .i64 (n : Int)) ∧ x.cell? ⟨A, 1, none⟩ = some (.slice ka t.kept.length kq) ∧ x.cell? ⟨A, 2, none⟩ = some (.slice ca t.cache.length cq) ∧ x.cell? ⟨A, 3, none⟩ = some (.int .i64 t.left) ∧ x.cell? ⟨A, 4, none⟩ = some (.bool t.dark)) ∧ _ from fun x hx =>
            ⟨(HDr.out.tr.turn hx (by have := HDr.out.ord; omega)).cells, (HDr.out.sp.turn hx (by have := HDr.out.ord; omega)).cells⟩)
          refine Order.beginE (fun x => Turns (fun k => k = C ∨ k = D) W.drew x) [] (by kernel_rfl) ?_
          refine Order.readsE_any (idx := [0, 1]) (by kernel_rfl) (Turns.refl _ _) (fun _ _ _ _ _ h => Order.noPanic_put h) 3 _ _ (by decide +kernel) ?_
          simp only [Order.pick, List.getElem?_toArray, List.getElem?_cons_zero, List.getElem?_cons_succ]
          repeat (first
            | (refine Order.reads_off (by rfl) ?_
               simp only [Act.put, List.setIfInBounds_toArray, List.set_cons_zero, List.set_cons_succ])
            | (apply Order.reads_on
               · rfl
               · intro x hx
                 first
                   | (obtain ⟨⟨c0, c1, c2, c3, c4⟩, d0, d1, d2, d3, d4, d5⟩ := HF.out x hx
                      exact Order.load_at rfl rfl (by assumption))
                   | (go_simp; rfl)
                   | (obtain ⟨⟨c0, c1, c2, c3, c4⟩, d0, d1, d2, d3, d4, d5⟩ := HF.out x hx
                      go_simp; rfl)
               simp only [Act.put, List.setIfInBounds_toArray, List.set_cons_zero, List.set_cons_succ]))
          refine Order.reads_end ?_
          have HEZ := Lib.hid (Turns.refl (fun k => k = C ∨ k = D) W.drew)
          generalize W.drew = V at *
          have HDn := Lib.hid HDr.out.done
          obtain ⟨f0, f1, f2, f3, f4⟩ := HDr.out.r6.free
          obtain ⟨q0, q1, q2, q3, q4⟩ := HDr.out.r6.cells
          apply Order.actE (i := 2)
          · rfl
          · decide +kernel
          · rfl
          unfold Oper.wp
          go_simp
          obtain ⟨X5, hX5⟩ : ∃ x, x = st5 V C (.int .i64 (n : Int)) (.slice ka t.kept.length kq) (.slice ca t.cache.length cq) (.int .i64 t.left) (.bool t.dark) := ⟨_, rfl⟩
          rw [← hX5] at HDn
          unfold st5 at hX5
          rw [← hX5]
          refine ⟨HDn.out.1, ?_⟩
          clear f0 f1 f2 f3 f4 q0 q1 q2 q3 q4 hX5
          have HBo := Lib.hid (HDr.out.both HDn.out.1 HDn.out.2.1 HDn.out.2.2)
          have r0 := HDn.out.2.2.free 0
          have r1 := HDn.out.2.2.free 1
          have r2 := HDn.out.2.2.free 2
          have r3 := HDn.out.2.2.free 3
          have r4 := HDn.out.2.2.free 4
          have r5 := HDn.out.2.2.free 5
          obtain ⟨z0, z1, z2, z3, z4, z5⟩ := HDn.out.2.2.cells
          apply Order.actE (i := 3)
          · rfl
          · decide +kernel
          · rfl
          unfold Oper.wp
          go_simp
          obtain ⟨X6, hX6⟩ : ∃ x, x = st6 X5 D s := ⟨_, rfl⟩
          rw [← hX6] at HBo
          unfold st6 at hX6
          rw [← hX6]
          refine ⟨HBo.out.1, ?_⟩
          clear r0 r1 r2 r3 r4 r5 z0 z1 z2 z3 z4 z5 hX6
          refine Order.readsE_any (idx := [4]) (by kernel_rfl) HBo.out.1 (fun _ _ _ _ _ h => Order.noPanic_put h) 0 _ _ (by decide +kernel) ?_
          simp only [Order.pick, List.getElem?_toArray, List.getElem?_cons_zero, List.getElem?_cons_succ]
          repeat (first
            | (refine Order.reads_off (by rfl) ?_
               simp only [Act.put, List.setIfInBounds_toArray, List.set_cons_zero, List.set_cons_succ])
            | (apply Order.reads_on
               · rfl
               · intro x hx
                 first
                   | (go_simp; rfl)
                   | (fail
                      go_simp; rfl)
               simp only [Act.put, List.setIfInBounds_toArray, List.set_cons_zero, List.set_cons_succ]))
          refine Order.reads_end ?_
          refine Order.doneE (by decide +kernel) ?_ _
          refine NoPanic.normal ?_
          go_wp2_with fail
          obtain ⟨g0, g1, g2, g3, g4⟩ := HBo.out.2.1.cells
          obtain ⟨i0, i1, i2, i3, i4, i5⟩ := HBo.out.2.2.1.cells
          refine bodyPost_ret (v := .tuple #[Ta.trV (n : Int) (.slice ka t.kept.length kq) (.slice ca t.cache.length cq) t.left t.dark, .agg (dsC s), .int .i64 20]) (by simp [results, Try.results24, go_sem, g0, g1, g2, g3, g4, i0, i1, i2, i3, i4, i5, dsC, Ta.trV]) rfl ⟨Ta.trV (n : Int) (.slice ka t.kept.length kq) (.slice ca t.cache.length cq) t.left t.dark, ?_, ?_, (by first | exact HBo.out.2.2.2.1 | exact hA ▸ HBo.out.2.2.2.1)⟩
          · rw [HAp.out]; rfl
          · rw [HAp.out]; exact HBo.out.2.2.2.2
        · rw [hdd] at d5
          have HG2 := Lib.hid (And.intro g2 hdd)
          clear g1 g2 hdd
          go_upto_region 8 with fail
          clear d0 d1 d2 d3 d4 d5 e1 e2 w1 w2
          go_wp2_with fail
          go_loopw [10] (fun vi x => ∃ (j : Nat) (t' : Tray (List UInt8)) (kv cv : Value), j ≤ o ∧ vi = .int .i64 (j : Int) ∧ Hid (Da F G w x A B C D n kv cv t' s ∧ t'.kept.length + t'.cache.length ≤ t.kept.length + t.cache.length + j) ∧ Hid (wr s b o o 0 t = Sp.wr s b o (o - j) j t')) (fun vi _ => o - (intOf vi).toNat)
          case atStart => exact ⟨0, t, _, _, Nat.zero_le _, rfl, ⟨HDa.out, by omega⟩, Lib.hid rfl⟩
          case round =>
            clear HDa
            obtain ⟨j, t', kv, cv, hj, rfl, HX, HE⟩ := hrel
            obtain ⟨xa, xq, hkv⟩ := HX.out.1.dk.now.slice
            obtain ⟨ya, yq, hcv⟩ := HX.out.1.dc.now.slice
            subst hkv hcv
            by_cases hlt : j < o
            · have hjb : j * 108 ≤ b.length := Nat.le_trans (Nat.mul_le_mul_right 108 (by omega)) HPl.out.2.2
              have hbx := HB.out.below HX.out.1.below
              have hb60 : b.length ≤ 60000 := by have := HPl.out.1; omega
              obtain ⟨sa, sc, hsl, hcb⟩ := chunk_slice2 hbx j hjb hb60
              have hwtj : IntKind.i64.wrap ((s.tail : Int) + (j : Int)) = (s.tail : Int) + (j : Int) := by rw [IntKind.wrap_i64] <;> omega
              have hwj1 : IntKind.i64.wrap ((j : Int) * 108) = (j : Int) * 108 := by rw [IntKind.wrap_i64] <;> omega
              have hwj2 : IntKind.i64.wrap ((j : Int) * 108 + 108) = (j : Int) * 108 + 108 := by rw [IntKind.wrap_i64] <;> omega
              have HF := Lib.hid (show ∀ x, Below wr.heap.size wr x → _ from fun x hx => (HX.out.1.sp.on hx).cells)
              have HS8 := Lib.hid (show s.sector b o j = secB s.epoch (s.tail + j) j o (chunk b j) ∧ (secB s.epoch (s.tail + j) j o (chunk b j)).length = 128 from ⟨rfl, secB_len (chunk_le b j)⟩)
              go_upto_region 11 with fail
              go_cut [11] (fun v wx => ∃ g, v = .pointer (some ⟨g, 0, none⟩) ∧ Hid (Blk wx g tSec (secB s.epoch (s.tail + j) j o (chunk b j)) ∧ Below wr.heap.size wr wx ∧ wr.heap.size ≤ g))
              case first =>
                by_cases hm : b.length < j * 108 + 108
                · clear HS8
                  have hmin : min (j * 108 + 108) b.length = b.length := by omega
                  rw [hmin] at hsl
                  have hlt2 : (b.length : Int) < (j : Int) * 108 + 108 := by omega
                  clear hmin
                  have HSc := Lib.hid (show ∀ x, Below wr.heap.size wr x → _ from fun x hx => dsec_any s.epoch (s.tail + j) j o (.slice sa (chunk b j).length sc) (chunk b j) x (hcb _ (hbx.below hx)) (chunk_le b j) (by omega) (by omega) (by omega) (by omega))
                  rw [Int.natCast_add] at HSc
                  have HB0 := Lib.hid (show Below wr.heap.size wr wr.drew from (Below.refl _ _).drew)
                  have h8 : (secB s.epoch (s.tail + j) j o (chunk b j)).length = 128 := secB_len (chunk_le b j)
                  generalize secB s.epoch (s.tail + j) j o (chunk b j) = S8 at *
                  have hz := Ta.zero_sec
                  have hw := hwtj
                  clear hcb
                  refine Order.beginE (fun x => Below wr.heap.size wr x) [] (by kernel_rfl) ?_
                  refine Order.readsE_any (idx := [0, 1, 2, 3, 4, 5, 6, 7, 8, 9, 10, 11, 12, 13, 14, 15, 16, 17]) (by kernel_rfl) (Below.refl _ _).drew (fun _ _ _ _ _ h => Order.noPanic_put h) 3 _ _ (by decide +kernel) ?_
                  simp only [Order.pick, List.getElem?_toArray, List.getElem?_cons_zero, List.getElem?_cons_succ]
                  repeat (first
                    | (refine Order.reads_off (by rfl) ?_
                       simp only [Act.put, List.setIfInBounds_toArray, List.set_cons_zero, List.set_cons_succ])
                    | (apply Order.reads_on
                       · rfl
                       · intro x hx
                         first
                           | (obtain ⟨d0, d1, d2, d3, d4, d5⟩ := HF.out x hx
                              exact Order.load_at rfl rfl (by assumption))
                           | (go_simp; rfl)
                           | (obtain ⟨d0, d1, d2, d3, d4, d5⟩ := HF.out x hx
                              go_simp; rfl)
                       simp only [Act.put, List.setIfInBounds_toArray, List.set_cons_zero, List.set_cons_succ]))
                  refine Order.reads_end ?_
                  apply Order.actE2 (i := 18) (j := 19)
                  · rfl
                  · rfl
                  · decide +kernel
                  · rfl
                  · rfl
                  · simp only [List.getElem_toArray, List.getElem_cons_succ, List.getElem_cons_zero]
                    unfold Oper.wp
                    go_simp
                    refine (HSc.out _ HB0.out).mono ?_
                    rintro e x1 ⟨rfl, hb1⟩
                    have hb1' : Below wr.heap.size wr x1 := HB0.out.trans hb1
                    refine ⟨hb1', ?_⟩
                    apply Order.actE (i := 19)
                    · rfl
                    · decide +kernel
                    · rfl
                    simp only [List.getElem_toArray, List.getElem_cons_succ, List.getElem_cons_zero]
                    unfold Oper.wp
                    go_simp
                    have hal : Below wr.heap.size wr (x1.alloc (.cells (sec nul) tSec)) := hb1'.alloc hb1'.size _
                    refine ⟨hal, ?_⟩
                    apply Order.actE (i := 20)
                    · rfl
                    · decide +kernel
                    · rfl
                    simp only [List.getElem_toArray, List.getElem_cons_succ, List.getElem_cons_zero]
                    refine wp_store_row tSec _ _ rfl x1.heap.size (sec S8) rfl rfl tSec (sec nul) (heap_alloc_new x1 _) (by rw [Ta.sec_size h8]; exact Ta.info_sec) (by rw [Ta.sec_size h8]; rfl) (Ta.sec_one _) ?_
                    have hrow := turn_row (x1.alloc (.cells (sec nul) tSec)) x1.heap.size (sec S8)
                    have hbf := hal.trans (hrow.below hal.size fun k e => by have := hb1'.size; omega)
                    refine ⟨hbf, ?_⟩
                    refine Order.doneE (by decide +kernel) ?_ _
                    refine NoPanic.normal ?_
                    have HXs := Lib.hid (show Blk ((x1.alloc (.cells (sec nul) tSec)).setRow x1.heap.size (sec S8)) x1.heap.size tSec S8 ∧ _ ∧ wr.heap.size ≤ x1.heap.size from ⟨Blk.row (heap_alloc_new x1 _) _, hbf, hb1'.size⟩)
                    clear hbf hrow hal hb1 hb1'
                    go_wp2_with fail
                    go_meet
                    case rel => exact ⟨_, rfl, HXs.out⟩
                  · simp only [List.getElem_toArray, List.getElem_cons_succ, List.getElem_cons_zero]
                    unfold Oper.wp
                    go_simp
                    have hal : Below wr.heap.size wr (wr.drew.alloc (.cells (sec nul) tSec)) := HB0.out.alloc HB0.out.size _
                    have hnew := heap_alloc_new wr.drew (.cells (sec nul) tSec)
                    change Below wr.heap.size wr (wr.drew.alloc (.cells (sec nul) tSec)) ∧ _
                    refine ⟨hal, ?_⟩
                    apply Order.actE (i := 18)
                    · rfl
                    · decide +kernel
                    · rfl
                    simp only [List.getElem_toArray, List.getElem_cons_succ, List.getElem_cons_zero]
                    unfold Oper.wp
                    go_simp
                    refine (HSc.out (wr.drew.alloc (.cells (sec nul) tSec)) hal).mono ?_
                    rintro e x1 ⟨rfl, hb1⟩
                    have hb1' : Below wr.heap.size wr x1 := hal.trans (hb1.mono hal.size)
                    refine ⟨hb1', ?_⟩
                    have hblk : Blk x1 wr.heap.size tSec nul := Blk.on (w := wr.drew.alloc (.cells (sec nul) tSec)) hnew hb1
                    apply Order.actE (i := 20)
                    · rfl
                    · decide +kernel
                    · rfl
                    simp only [List.getElem_toArray, List.getElem_cons_succ, List.getElem_cons_zero]
                    refine wp_store_row tSec _ _ rfl wr.heap.size (sec S8) rfl rfl tSec (sec nul) hblk (by rw [Ta.sec_size h8]; exact Ta.info_sec) (by rw [Ta.sec_size h8]; rfl) (Ta.sec_one _) ?_
                    have hrow := turn_row x1 wr.heap.size (sec S8)
                    have hbf := hb1'.trans (hrow.below hb1'.size fun k e => by omega)
                    refine ⟨hbf, ?_⟩
                    refine Order.doneE (by decide +kernel) ?_ _
                    refine NoPanic.normal ?_
                    have HXs := Lib.hid (show Blk (x1.setRow wr.heap.size (sec S8)) wr.heap.size tSec S8 ∧ _ ∧ wr.heap.size ≤ wr.heap.size from ⟨hblk.row _, hbf, Nat.le_refl _⟩)
                    clear hbf hrow hal hb1 hb1' hblk hnew
                    go_wp2_with fail
                    go_meet
                    case rel => exact ⟨_, rfl, HXs.out⟩
                · clear HS8
                  have hmin : min (j * 108 + 108) b.length = j * 108 + 108 := by omega
                  rw [hmin, show ((j * 108 + 108 : Nat) : Int) = (j : Int) * 108 + 108 by omega] at hsl
                  have hlt2 : ¬ (b.length : Int) < (j : Int) * 108 + 108 := by omega
                  clear hmin
                  have HSc := Lib.hid (show ∀ x, Below wr.heap.size wr x → _ from fun x hx => dsec_any s.epoch (s.tail + j) j o (.slice sa (chunk b j).length sc) (chunk b j) x (hcb _ (hbx.below hx)) (chunk_le b j) (by omega) (by omega) (by omega) (by omega))
                  rw [Int.natCast_add] at HSc
                  have HB0 := Lib.hid (show Below wr.heap.size wr wr.drew from (Below.refl _ _).drew)
                  have h8 : (secB s.epoch (s.tail + j) j o (chunk b j)).length = 128 := secB_len (chunk_le b j)
                  generalize secB s.epoch (s.tail + j) j o (chunk b j) = S8 at *
                  have hz := Ta.zero_sec
                  have hw := hwtj
                  clear hcb
                  refine Order.beginE (fun x => Below wr.heap.size wr x) [] (by kernel_rfl) ?_
                  refine Order.readsE_any (idx := [0, 1, 2, 3, 4, 5, 6, 7, 8, 9, 10, 11, 12, 13, 14, 15, 16, 17]) (by kernel_rfl) (Below.refl _ _).drew (fun _ _ _ _ _ h => Order.noPanic_put h) 3 _ _ (by decide +kernel) ?_
                  simp only [Order.pick, List.getElem?_toArray, List.getElem?_cons_zero, List.getElem?_cons_succ]
                  repeat (first
                    | (refine Order.reads_off (by rfl) ?_
                       simp only [Act.put, List.setIfInBounds_toArray, List.set_cons_zero, List.set_cons_succ])
                    | (apply Order.reads_on
                       · rfl
                       · intro x hx
                         first
                           | (obtain ⟨d0, d1, d2, d3, d4, d5⟩ := HF.out x hx
                              exact Order.load_at rfl rfl (by assumption))
                           | (go_simp; rfl)
                           | (obtain ⟨d0, d1, d2, d3, d4, d5⟩ := HF.out x hx
                              go_simp; rfl)
                       simp only [Act.put, List.setIfInBounds_toArray, List.set_cons_zero, List.set_cons_succ]))
                  refine Order.reads_end ?_
                  apply Order.actE2 (i := 18) (j := 19)
                  · rfl
                  · rfl
                  · decide +kernel
                  · rfl
                  · rfl
                  · simp only [List.getElem_toArray, List.getElem_cons_succ, List.getElem_cons_zero]
                    unfold Oper.wp
                    go_simp
                    refine (HSc.out _ HB0.out).mono ?_
                    rintro e x1 ⟨rfl, hb1⟩
                    have hb1' : Below wr.heap.size wr x1 := HB0.out.trans hb1
                    refine ⟨hb1', ?_⟩
                    apply Order.actE (i := 19)
                    · rfl
                    · decide +kernel
                    · rfl
                    simp only [List.getElem_toArray, List.getElem_cons_succ, List.getElem_cons_zero]
                    unfold Oper.wp
                    go_simp
                    have hal : Below wr.heap.size wr (x1.alloc (.cells (sec nul) tSec)) := hb1'.alloc hb1'.size _
                    refine ⟨hal, ?_⟩
                    apply Order.actE (i := 20)
                    · rfl
                    · decide +kernel
                    · rfl
                    simp only [List.getElem_toArray, List.getElem_cons_succ, List.getElem_cons_zero]
                    refine wp_store_row tSec _ _ rfl x1.heap.size (sec S8) rfl rfl tSec (sec nul) (heap_alloc_new x1 _) (by rw [Ta.sec_size h8]; exact Ta.info_sec) (by rw [Ta.sec_size h8]; rfl) (Ta.sec_one _) ?_
                    have hrow := turn_row (x1.alloc (.cells (sec nul) tSec)) x1.heap.size (sec S8)
                    have hbf := hal.trans (hrow.below hal.size fun k e => by have := hb1'.size; omega)
                    refine ⟨hbf, ?_⟩
                    refine Order.doneE (by decide +kernel) ?_ _
                    refine NoPanic.normal ?_
                    have HXs := Lib.hid (show Blk ((x1.alloc (.cells (sec nul) tSec)).setRow x1.heap.size (sec S8)) x1.heap.size tSec S8 ∧ _ ∧ wr.heap.size ≤ x1.heap.size from ⟨Blk.row (heap_alloc_new x1 _) _, hbf, hb1'.size⟩)
                    clear hbf hrow hal hb1 hb1'
                    go_wp2_with fail
                    go_meet
                    case rel => exact ⟨_, rfl, HXs.out⟩
                  · simp only [List.getElem_toArray, List.getElem_cons_succ, List.getElem_cons_zero]
                    unfold Oper.wp
                    go_simp
                    have hal : Below wr.heap.size wr (wr.drew.alloc (.cells (sec nul) tSec)) := HB0.out.alloc HB0.out.size _
                    have hnew := heap_alloc_new wr.drew (.cells (sec nul) tSec)
                    change Below wr.heap.size wr (wr.drew.alloc (.cells (sec nul) tSec)) ∧ _
                    refine ⟨hal, ?_⟩
                    apply Order.actE (i := 18)
                    · rfl
                    · decide +kernel
                    · rfl
                    simp only [List.getElem_toArray, List.getElem_cons_succ, List.getElem_cons_zero]
                    unfold Oper.wp
                    go_simp
                    refine (HSc.out (wr.drew.alloc (.cells (sec nul) tSec)) hal).mono ?_
                    rintro e x1 ⟨rfl, hb1⟩
                    have hb1' : Below wr.heap.size wr x1 := hal.trans (hb1.mono hal.size)
                    refine ⟨hb1', ?_⟩
                    have hblk : Blk x1 wr.heap.size tSec nul := Blk.on (w := wr.drew.alloc (.cells (sec nul) tSec)) hnew hb1
                    apply Order.actE (i := 20)
                    · rfl
                    · decide +kernel
                    · rfl
                    simp only [List.getElem_toArray, List.getElem_cons_succ, List.getElem_cons_zero]
                    refine wp_store_row tSec _ _ rfl wr.heap.size (sec S8) rfl rfl tSec (sec nul) hblk (by rw [Ta.sec_size h8]; exact Ta.info_sec) (by rw [Ta.sec_size h8]; rfl) (Ta.sec_one _) ?_
                    have hrow := turn_row x1 wr.heap.size (sec S8)
                    have hbf := hb1'.trans (hrow.below hb1'.size fun k e => by omega)
                    refine ⟨hbf, ?_⟩
                    refine Order.doneE (by decide +kernel) ?_ _
                    refine NoPanic.normal ?_
                    have HXs := Lib.hid (show Blk (x1.setRow wr.heap.size (sec S8)) wr.heap.size tSec S8 ∧ _ ∧ wr.heap.size ≤ wr.heap.size from ⟨hblk.row _, hbf, Nat.le_refl _⟩)
                    clear hbf hrow hal hb1 hb1' hblk hnew
                    go_wp2_with fail
                    go_meet
                    case rel => exact ⟨_, rfl, HXs.out⟩
              case rest =>
                obtain ⟨g, rfl, HXs⟩ := hcut
                clear hsl hcb hbx hjb HF
                obtain ⟨S8, hS8⟩ : ∃ S8, S8 = secB s.epoch (s.tail + j) j o (chunk b j) := ⟨_, rfl⟩
                rw [← hS8] at HXs HS8
                clear hS8
                have HDc := Lib.hid (HX.out.1.on HXs.out.2.1)
                have hat : s.first + (s.tail + j) % s.count < n := by
                  have h1 := Nat.mod_lt (s.tail + j) (show 0 < s.count by omega)
                  have h2 := HSf.out.2.1
                  omega
                have hc0 : ¬ s.count = 0 := by omega
                have hr : ((s.tail : Int) + (j : Int)).tmod (s.count : Int) = (((s.tail + j) % s.count : Nat) : Int) := by rw [Int.tmod_eq_emod_of_nonneg (by omega), Int.natCast_emod, Int.natCast_add]
                have HZz := Lib.hid (show IntKind.i64.wrap ((s.first : Int) + ((s.tail : Int) + (j : Int)) % (s.count : Int)) = ((s.at (s.tail + j) : Nat) : Int) from by
                  rw [show ((s.tail : Int) + (j : Int)) % (s.count : Int) = (((s.tail + j) % s.count : Nat) : Int) from (by rw [Int.natCast_emod, Int.natCast_add]), show s.at (s.tail + j) = s.first + (s.tail + j) % s.count from rfl]
                  rw [IntKind.wrap_i64] <;> omega)
                have HP := Lib.hid (show ∀ x, Below wc.heap.size wc x → _ from fun x hx => Ta.dput_any G n _ t' ((s.at (s.tail + j) : Nat) : Int) (.slice (some ⟨g, 0, none⟩) 128 128) S8 x (fun k hk => Nat.lt_of_lt_of_le (HDc.out.low k hk) hx.size) (HDc.out.isD.below hx) (by
                  have h1 := (HXs.out.1.on hx).bytes (o := 0) (m := 128) (cap := 128) (by rw [HS8.out.2]; omega) (Nat.le_refl _) (by unfold maxLen; omega)
                  rwa [List.drop_zero, List.take_of_length_le (by rw [HS8.out.2]; exact Nat.le_refl _)] at h1) HX.out.1.left (by have := HX.out.2; have := HSf.out.2.2.2.2; omega))
                rw [write_full (show s.at (s.tail + j) < n from hat) HS8.out.2] at HP
                unfold Ta.trV at HP
                generalize hat2 : s.at (s.tail + j) = Ad at *
                have HAd := Lib.hid hat2
                clear hat2 hat
                obtain ⟨T, hT⟩ : ∃ T, T = (if t'.left = 0 then t'.dim else t'.put (Ad : Int) S8) := ⟨_, rfl⟩
                obtain ⟨cd, hcd⟩ : ∃ cd : Int, cd = (if t'.left = 0 then 20 else 0) := ⟨_, rfl⟩
                rw [← hT, ← hcd] at HP
                have HT := Lib.hid (And.intro hT hcd)
                clear hT hcd
                have HF := Lib.hid (show ∀ x, Below wc.heap.size wc x → (x.cell? ⟨A, 0, none⟩ = some (.int .i64 (n : Int)) ∧ x.cell? ⟨A, 1, none⟩ = some (.slice xa t'.kept.length xq) ∧ x.cell? ⟨A, 2, none⟩ = some (.slice ya t'.cache.length yq) ∧ x.cell? ⟨A, 3, none⟩ = some (.int .i64 t'.left) ∧ x.cell? ⟨A, 4, none⟩ = some (.bool t'.dark)) ∧ _ from fun x hx => ⟨(HDc.out.tr.on hx).cells, (HDc.out.sp.on hx).cells⟩)
                go_upto_region 13 with fail
                refine Order.beginE (fun x => Below wc.heap.size wc x) [14, 15, 16, 17] (by kernel_rfl) ?_
                refine Order.readsC_any (idx := [0, 1, 2, 3, 4, 5, 6, 7, 8, 9, 10, 11]) (by kernel_rfl) (Below.refl _ _).drew (fun _ _ _ _ _ h => Order.noPanic_put h) 6 _ _ (by decide +kernel) ?_
                simp only [Order.pick, List.getElem?_toArray, List.getElem?_cons_zero, List.getElem?_cons_succ]
                repeat (first
                  | (refine Order.reads_off (by rfl) ?_
                     simp only [Act.put, List.setIfInBounds_toArray, List.set_cons_zero, List.set_cons_succ])
                  | (apply Order.reads_on
                     · rfl
                     · intro x hx
                       first
                         | (obtain ⟨⟨c0, c1, c2, c3, c4⟩, d0, d1, d2, d3, d4, d5⟩ := HF.out x hx
                            exact Order.load_at rfl rfl (by assumption))
                         | (go_simp; rfl)
                         | (obtain ⟨⟨c0, c1, c2, c3, c4⟩, d0, d1, d2, d3, d4, d5⟩ := HF.out x hx
                            go_simp; rfl)
                     simp only [Act.put, List.setIfInBounds_toArray, List.set_cons_zero, List.set_cons_succ]))
                refine Order.reads_end ?_
                first | rw [HZz.out] | skip
                apply Order.actE (i := 12)
                · rfl
                · decide +kernel
                · rfl
                unfold Oper.wp
                go_simp
                refine (HP.out _ (Below.refl _ _).drew).mono ?_
                rintro e y1 ⟨v', rfl, ⟨kv', cv', rfl, hk', hc'⟩, hb1⟩
                have hb1' : Below wc.heap.size wc y1 := (Below.refl wc.heap.size wc).drew.trans hb1
                refine ⟨hb1', ?_⟩
                obtain ⟨k1, k2, hkv⟩ := hk'.now.slice
                obtain ⟨k3, k4, hcv⟩ := hc'.now.slice
                subst hkv hcv
                have HDy := Lib.hid (HDc.out.on hb1')
                have hTl : -1 ≤ T.left ∧ T.left ≤ 1099511627776 := by
                  rw [HT.out.1]
                  split
                  · exact HX.out.1.left
                  · have := HX.out.1.left
                    unfold Tray.put
                    rename_i h0
                    rw [if_neg h0]
                    show -1 ≤ (if 0 < t'.left then t'.left - 1 else t'.left) ∧ (if 0 < t'.left then t'.left - 1 else t'.left) ≤ _
                    split <;> omega
                have HLy := Lib.hid (HDy.out.lay hk' hc' hTl)
                unfold Ta.trV
                refine Order.readsC_any (idx := [13]) (by kernel_rfl) hb1' (fun _ _ _ _ _ h => Order.noPanic_put h) 4 _ _ (by decide +kernel) ?_
                simp only [Order.pick, List.getElem?_toArray, List.getElem?_cons_zero, List.getElem?_cons_succ]
                repeat (first
                  | (refine Order.reads_off (by rfl) ?_
                     simp only [Act.put, List.setIfInBounds_toArray, List.set_cons_zero, List.set_cons_succ])
                  | (apply Order.reads_on
                     · rfl
                     · intro x hx
                       first
                         | (go_simp; rfl)
                         | (fail
                            go_simp; rfl)
                     simp only [Act.put, List.setIfInBounds_toArray, List.set_cons_zero, List.set_cons_succ]))
                refine Order.reads_end ?_
                apply Order.freeC (i := 15)
                · rfl
                · kernel_rfl
                · decide
                · decide +kernel
                · decide +kernel
                · exact fun _ _ _ _ _ h => Order.noPanic_put h
                · rfl
                · intro x
                  go_simp
                  rfl
                apply Order.freeC (i := 14)
                · rfl
                · kernel_rfl
                · decide
                · decide +kernel
                · decide +kernel
                · exact fun _ _ _ _ _ h => Order.noPanic_put h
                · rfl
                · intro x
                  go_simp
                  rfl
                obtain ⟨q0, q1, q2, q3, q4⟩ := HDy.out.tr.cells
                obtain ⟨f0, f1, f2, f3, f4⟩ := HDy.out.tr.free
                obtain ⟨Z, hZ⟩ : ∃ x, x = st5 y1 A (.int .i64 (n : Int)) (.slice k1 T.kept.length k2) (.slice k3 T.cache.length k4) (.int .i64 T.left) (.bool T.dark) := ⟨_, rfl⟩
                rw [← hZ] at HLy
                unfold st5 at hZ
                apply Order.lastE (i := 16)
                · rfl
                · decide +kernel
                · decide
                · rfl
                unfold Oper.wp
                go_simp
                apply Order.lastE (i := 17)
                · rfl
                · decide +kernel
                · decide
                · rfl
                unfold Oper.wp
                go_simp
                rw [← hZ]
                clear q0 q1 q2 q3 q4 f0 f1 f2 f3 f4 hZ hb1 hb1' hk' hc'
                refine Order.doneE (by decide +kernel) ?_ _
                refine NoPanic.normal ?_
                clear HF HP HDy HDc HXs hc0 hr hwtj hwj1 hwj2 hTl
                by_cases g0 : t'.left = 0
                · obtain rfl : cd = 20 := by rw [HT.out.2, if_pos g0]
                  have hTd : T = t'.dim := by rw [HT.out.1, if_pos g0]
                  have HWo := Lib.hid (show wrote s b o t = (T, false) from by
                    unfold wrote
                    have h1 := HE.out
                    rw [show o - j = (o - j - 1) + 1 by omega, wr_stop g0, ← hTd] at h1
                    rw [h1]
                    rfl)
                  have HAp := Lib.hid (show append s b t = (T, { s with dead := true }, 20) from by
                    have h1 := append_stops (t := t) HPl.out.1 (by rw [← HO.out]; exact HG2.out.1) HG2.out.2 (by rw [← HO.out, HWo.out])
                    rw [h1, ← HO.out, HWo.out])
                  have hne : ((20 : Int) != 0) = true := rfl
                  have d5 := HLy.out.sp.cells.2.2.2.2.2
                  have f5 := HLy.out.sp.free 5
                  have HL2 := Lib.hid (HLy.out.cell 5 (.bool true) (s' := { s with dead := true }) (by simp [dsC]))
                  clear g0 hTd
                  go_upto_region 16 with fail
                  clear d5 f5 HLy
                  generalize Z.setCell ⟨B, 5, none⟩ (.bool true) = Z2 at *
                  obtain ⟨s2, hs2⟩ : ∃ s2 : S, s2 = { s with dead := true } := ⟨_, rfl⟩
                  rw [← hs2] at HAp HL2
                  clear hs2
                  have HDr := Lib.hid (HL2.out.on (Below.refl Z2.heap.size Z2).drew)
                  have HF := Lib.hid (show ∀ x, Turns (fun k => k = C ∨ k = D) Z2.drew x → (x.cell? ⟨A, 0, none⟩ = some (.int .i64 (n : Int)) ∧ x.cell? ⟨A, 1, none⟩ = some (.slice k1 T.kept.length k2) ∧ x.cell? ⟨A, 2, none⟩ = some (.slice k3 T.cache.length k4) ∧ x.cell? ⟨A, 3, none⟩ = some (.int .i64 T.left) ∧ x.cell? ⟨A, 4, none⟩ = some (.bool T.dark)) ∧ _ from fun x hx =>
                    ⟨(HDr.out.tr.turn hx (by have := HDr.out.ord; omega)).cells, (HDr.out.sp.turn hx (by have := HDr.out.ord; omega)).cells⟩)
                  refine Order.beginE (fun x => Turns (fun k => k = C ∨ k = D) Z2.drew x) [] (by kernel_rfl) ?_
                  refine Order.readsE_any (idx := [0, 1, 2]) (by kernel_rfl) (Turns.refl _ _) (fun _ _ _ _ _ h => Order.noPanic_put h) 3 _ _ (by decide +kernel) ?_
                  simp only [Order.pick, List.getElem?_toArray, List.getElem?_cons_zero, List.getElem?_cons_succ]
                  repeat (first
                    | (refine Order.reads_off (by rfl) ?_
                       simp only [Act.put, List.setIfInBounds_toArray, List.set_cons_zero, List.set_cons_succ])
                    | (apply Order.reads_on
                       · rfl
                       · intro x hx
                         first
                           | (obtain ⟨⟨c0, c1, c2, c3, c4⟩, d0, d1, d2, d3, d4, d5⟩ := HF.out x hx
                              exact Order.load_at rfl rfl (by assumption))
                           | (go_simp; rfl)
                           | (obtain ⟨⟨c0, c1, c2, c3, c4⟩, d0, d1, d2, d3, d4, d5⟩ := HF.out x hx
                              go_simp; rfl)
                       simp only [Act.put, List.setIfInBounds_toArray, List.set_cons_zero, List.set_cons_succ]))
                  refine Order.reads_end ?_
                  have HEZ := Lib.hid (Turns.refl (fun k => k = C ∨ k = D) Z2.drew)
                  generalize Z2.drew = V at *
                  have HDn := Lib.hid HDr.out.done
                  obtain ⟨f0, f1, f2, f3, f4⟩ := HDr.out.r6.free
                  obtain ⟨q0, q1, q2, q3, q4⟩ := HDr.out.r6.cells
                  apply Order.actE (i := 3)
                  · rfl
                  · decide +kernel
                  · rfl
                  unfold Oper.wp
                  go_simp
                  obtain ⟨X5, hX5⟩ : ∃ x, x = st5 V C (.int .i64 (n : Int)) (.slice k1 T.kept.length k2) (.slice k3 T.cache.length k4) (.int .i64 T.left) (.bool T.dark) := ⟨_, rfl⟩
                  rw [← hX5] at HDn
                  unfold st5 at hX5
                  rw [← hX5]
                  refine ⟨HDn.out.1, ?_⟩
                  clear f0 f1 f2 f3 f4 q0 q1 q2 q3 q4 hX5
                  have HBo := Lib.hid (HDr.out.both HDn.out.1 HDn.out.2.1 HDn.out.2.2)
                  have r0 := HDn.out.2.2.free 0
                  have r1 := HDn.out.2.2.free 1
                  have r2 := HDn.out.2.2.free 2
                  have r3 := HDn.out.2.2.free 3
                  have r4 := HDn.out.2.2.free 4
                  have r5 := HDn.out.2.2.free 5
                  obtain ⟨z0, z1, z2, z3, z4, z5⟩ := HDn.out.2.2.cells
                  apply Order.actE (i := 4)
                  · rfl
                  · decide +kernel
                  · rfl
                  unfold Oper.wp
                  go_simp
                  obtain ⟨X6, hX6⟩ : ∃ x, x = st6 X5 D s2 := ⟨_, rfl⟩
                  rw [← hX6] at HBo
                  unfold st6 at hX6
                  rw [← hX6]
                  refine ⟨HBo.out.1, ?_⟩
                  clear r0 r1 r2 r3 r4 r5 z0 z1 z2 z3 z4 z5 hX6
                  refine Order.readsE_any (idx := [5]) (by kernel_rfl) HBo.out.1 (fun _ _ _ _ _ h => Order.noPanic_put h) 0 _ _ (by decide +kernel) ?_
                  simp only [Order.pick, List.getElem?_toArray, List.getElem?_cons_zero, List.getElem?_cons_succ]
                  repeat (first
                    | (refine Order.reads_off (by rfl) ?_
                       simp only [Act.put, List.setIfInBounds_toArray, List.set_cons_zero, List.set_cons_succ])
                    | (apply Order.reads_on
                       · rfl
                       · intro x hx
                         first
                           | (go_simp; rfl)
                           | (fail
                              go_simp; rfl)
                       simp only [Act.put, List.setIfInBounds_toArray, List.set_cons_zero, List.set_cons_succ]))
                  refine Order.reads_end ?_
                  refine Order.doneE (by decide +kernel) ?_ _
                  refine NoPanic.normal ?_
                  go_wp2_with fail
                  obtain ⟨g0, g1, g2, g3, g4⟩ := HBo.out.2.1.cells
                  obtain ⟨i0, i1, i2, i3, i4, i5⟩ := HBo.out.2.2.1.cells
                  refine bodyPost_ret (v := .tuple #[Ta.trV (n : Int) (.slice k1 T.kept.length k2) (.slice k3 T.cache.length k4) T.left T.dark, .agg (dsC s2), .int .i64 20]) (by simp [results, Try.results24, go_sem, g0, g1, g2, g3, g4, i0, i1, i2, i3, i4, i5, dsC, Ta.trV]) rfl ⟨Ta.trV (n : Int) (.slice k1 T.kept.length k2) (.slice k3 T.cache.length k4) T.left T.dark, ?_, ?_, (by first | exact HBo.out.2.2.2.1 | exact hA ▸ HBo.out.2.2.2.1)⟩
                  · rw [HAp.out]; rfl
                  · rw [HAp.out]; exact HBo.out.2.2.2.2
                · obtain rfl : cd = 0 := by rw [HT.out.2, if_neg g0]
                  have hTd : T = t'.put (Ad : Int) S8 := by rw [HT.out.1, if_neg g0]
                  have hne : ((0 : Int) != 0) = false := rfl
                  have HNx := Lib.hid (show T.kept.length + T.cache.length ≤ t.kept.length + t.cache.length + (j + 1) ∧ Sp.wr s b o o 0 t = Sp.wr s b o (o - (j + 1)) (j + 1) T from by
                    constructor
                    · have h1 := HX.out.2
                      rw [hTd]
                      unfold Tray.put
                      rw [if_neg g0]
                      show t'.kept.length + (t'.cache ++ [((Ad : Int), S8)]).length ≤ _
                      rw [List.length_append, List.length_singleton]
                      omega
                    · have h1 := HE.out
                      rw [show o - j = (o - j - 1) + 1 by omega, wr_go g0, HS8.out.1, HAd.out] at h1
                      rw [hTd, h1, show o - j - 1 = o - (j + 1) by omega])
                  clear g0 hTd
                  go_wp2_with fail
                  go_roundw
                  case rel => exact ⟨j + 1, T, _, _, by omega, by go_num, ⟨HLy.out, HNx.out.1⟩, Lib.hid HNx.out.2⟩
                  case measure => simp [intOf]; omega
            · obtain rfl : j = o := by omega
              rw [Nat.sub_self] at HE
              have HT := Lib.hid (show t'.flush = (if t'.left = 0 then t'.dim else t'.flush) from by
                split
                · rename_i h0
                  unfold Tray.flush
                  rw [if_pos h0]
                · rfl)
              have HFl := Lib.hid (Ta.dflush_any G n _ t' wr HX.out.1.low HX.out.1.isD HX.out.1.left (by have := HX.out.2; have := HSf.out.2.2.2.2; omega))
              unfold Ta.trV at HFl
              obtain ⟨T, hT⟩ : ∃ T, T = t'.flush := ⟨_, rfl⟩
              obtain ⟨cd, hcd⟩ : ∃ cd : Int, cd = (if t'.left = 0 then 20 else 0) := ⟨_, rfl⟩
              rw [← hT, ← hcd] at HFl
              have hTl : -1 ≤ T.left ∧ T.left ≤ 1099511627776 := by
                rw [hT]
                have := HX.out.1.left
                unfold Tray.flush
                split
                · exact this
                · show -1 ≤ (if 0 < t'.left then t'.left - 1 else t'.left) ∧ (if 0 < t'.left then t'.left - 1 else t'.left) ≤ _
                  split <;> omega
              obtain ⟨c0, c1, c2, c3, c4⟩ := HX.out.1.tr.cells
              have HTl := Lib.hid (And.intro hTl (And.intro hT hcd))
              have HWo := Lib.hid (show wrote s b j t = (if t'.left = 0 then (t'.dim, false) else (t'.flush, true)) from by
                unfold wrote
                rw [HE.out]
                rfl)
              clear hTl hT hcd
              go_wp2_with fail
              refine HFl.out.mono ?_
              rintro e y1 ⟨v', rfl, ⟨kv', cv', rfl, hk', hc'⟩, hb1⟩
              obtain ⟨k1, k2, hkv⟩ := hk'.now.slice
              obtain ⟨k3, k4, hcv⟩ := hc'.now.slice
              subst hkv hcv
              have HDy := Lib.hid (HX.out.1.on hb1)
              have HLy := Lib.hid (HDy.out.lay hk' hc' HTl.out.1)
              obtain ⟨q0, q1, q2, q3, q4⟩ := HDy.out.tr.cells
              obtain ⟨f0, f1, f2, f3, f4⟩ := HDy.out.tr.free
              clear c0 c1 c2 c3 c4 hk' hc' hb1 HFl
              unfold Ta.trV
              go_upto_region 18 with fail
              clear q0 q1 q2 q3 q4 f0 f1 f2 f3 f4 HDy
              change Code.wp _ _ _ _ (st5 y1 A (.int .i64 (n : Int)) (.slice k1 T.kept.length k2) (.slice k3 T.cache.length k4) (.int .i64 T.left) (.bool T.dark))
              generalize st5 y1 A (.int .i64 (n : Int)) (.slice k1 T.kept.length k2) (.slice k3 T.cache.length k4) (.int .i64 T.left) (.bool T.dark) = Z at *
              by_cases g0 : t'.left = 0
              · obtain rfl : cd = 20 := by rw [HTl.out.2.2, if_pos g0]
                have HAp := Lib.hid (show append s b t = (T, { s with dead := true }, 20) from by
                  have hw := HWo.out
                  rw [if_pos g0] at hw
                  have h1 := append_stops (t := t) HPl.out.1 (by rw [← HO.out]; exact HG2.out.1) HG2.out.2 (by rw [← HO.out, hw])
                  have h2 := HT.out
                  rw [if_pos g0] at h2
                  rw [h1, ← HO.out, hw, HTl.out.2.1, h2])
                have hne : ((20 : Int) != 0) = true := rfl
                have d5 := HLy.out.sp.cells.2.2.2.2.2
                have f5 := HLy.out.sp.free 5
                have HL2 := Lib.hid (HLy.out.cell 5 (.bool true) (s' := { s with dead := true }) (by simp [dsC]))
                clear g0
                go_upto_region 20 with fail
                clear d5 f5 HLy
                generalize Z.setCell ⟨B, 5, none⟩ (.bool true) = Z2 at *
                obtain ⟨s2, hs2⟩ : ∃ s2 : S, s2 = { s with dead := true } := ⟨_, rfl⟩
                rw [← hs2] at HAp HL2
                clear hs2
                have HDr := Lib.hid (HL2.out.on (Below.refl Z2.heap.size Z2).drew)
                have HF := Lib.hid (show ∀ x, Turns (fun k => k = C ∨ k = D) Z2.drew x → (x.cell? ⟨A, 0, none⟩ = some (.int .i64 (n : Int)) ∧ x.cell? ⟨A, 1, none⟩ = some (.slice k1 T.kept.length k2) ∧ x.cell? ⟨A, 2, none⟩ = some (.slice k3 T.cache.length k4) ∧ x.cell? ⟨A, 3, none⟩ = some (.int .i64 T.left) ∧ x.cell? ⟨A, 4, none⟩ = some (.bool T.dark)) ∧ _ from fun x hx =>
                  ⟨(HDr.out.tr.turn hx (by have := HDr.out.ord; omega)).cells, (HDr.out.sp.turn hx (by have := HDr.out.ord; omega)).cells⟩)
                refine Order.beginE (fun x => Turns (fun k => k = C ∨ k = D) Z2.drew x) [] (by kernel_rfl) ?_
                refine Order.readsE_any (idx := [0, 1, 2]) (by kernel_rfl) (Turns.refl _ _) (fun _ _ _ _ _ h => Order.noPanic_put h) 3 _ _ (by decide +kernel) ?_
                simp only [Order.pick, List.getElem?_toArray, List.getElem?_cons_zero, List.getElem?_cons_succ]
                repeat (first
                  | (refine Order.reads_off (by rfl) ?_
                     simp only [Act.put, List.setIfInBounds_toArray, List.set_cons_zero, List.set_cons_succ])
                  | (apply Order.reads_on
                     · rfl
                     · intro x hx
                       first
                         | (obtain ⟨⟨c0, c1, c2, c3, c4⟩, d0, d1, d2, d3, d4, d5⟩ := HF.out x hx
                            exact Order.load_at rfl rfl (by assumption))
                         | (go_simp; rfl)
                         | (obtain ⟨⟨c0, c1, c2, c3, c4⟩, d0, d1, d2, d3, d4, d5⟩ := HF.out x hx
                            go_simp; rfl)
                     simp only [Act.put, List.setIfInBounds_toArray, List.set_cons_zero, List.set_cons_succ]))
                refine Order.reads_end ?_
                have HEZ := Lib.hid (Turns.refl (fun k => k = C ∨ k = D) Z2.drew)
                generalize Z2.drew = V at *
                have HDn := Lib.hid HDr.out.done
                obtain ⟨f0, f1, f2, f3, f4⟩ := HDr.out.r6.free
                obtain ⟨q0, q1, q2, q3, q4⟩ := HDr.out.r6.cells
                apply Order.actE (i := 3)
                · rfl
                · decide +kernel
                · rfl
                unfold Oper.wp
                go_simp
                obtain ⟨X5, hX5⟩ : ∃ x, x = st5 V C (.int .i64 (n : Int)) (.slice k1 T.kept.length k2) (.slice k3 T.cache.length k4) (.int .i64 T.left) (.bool T.dark) := ⟨_, rfl⟩
                rw [← hX5] at HDn
                unfold st5 at hX5
                rw [← hX5]
                refine ⟨HDn.out.1, ?_⟩
                clear f0 f1 f2 f3 f4 q0 q1 q2 q3 q4 hX5
                have HBo := Lib.hid (HDr.out.both HDn.out.1 HDn.out.2.1 HDn.out.2.2)
                have r0 := HDn.out.2.2.free 0
                have r1 := HDn.out.2.2.free 1
                have r2 := HDn.out.2.2.free 2
                have r3 := HDn.out.2.2.free 3
                have r4 := HDn.out.2.2.free 4
                have r5 := HDn.out.2.2.free 5
                obtain ⟨z0, z1, z2, z3, z4, z5⟩ := HDn.out.2.2.cells
                apply Order.actE (i := 4)
                · rfl
                · decide +kernel
                · rfl
                unfold Oper.wp
                go_simp
                obtain ⟨X6, hX6⟩ : ∃ x, x = st6 X5 D s2 := ⟨_, rfl⟩
                rw [← hX6] at HBo
                unfold st6 at hX6
                rw [← hX6]
                refine ⟨HBo.out.1, ?_⟩
                clear r0 r1 r2 r3 r4 r5 z0 z1 z2 z3 z4 z5 hX6
                refine Order.readsE_any (idx := [5]) (by kernel_rfl) HBo.out.1 (fun _ _ _ _ _ h => Order.noPanic_put h) 0 _ _ (by decide +kernel) ?_
                simp only [Order.pick, List.getElem?_toArray, List.getElem?_cons_zero, List.getElem?_cons_succ]
                repeat (first
                  | (refine Order.reads_off (by rfl) ?_
                     simp only [Act.put, List.setIfInBounds_toArray, List.set_cons_zero, List.set_cons_succ])
                  | (apply Order.reads_on
                     · rfl
                     · intro x hx
                       first
                         | (go_simp; rfl)
                         | (fail
                            go_simp; rfl)
                     simp only [Act.put, List.setIfInBounds_toArray, List.set_cons_zero, List.set_cons_succ]))
                refine Order.reads_end ?_
                refine Order.doneE (by decide +kernel) ?_ _
                refine NoPanic.normal ?_
                go_wp2_with fail
                obtain ⟨g0, g1, g2, g3, g4⟩ := HBo.out.2.1.cells
                obtain ⟨i0, i1, i2, i3, i4, i5⟩ := HBo.out.2.2.1.cells
                refine bodyPost_ret (v := .tuple #[Ta.trV (n : Int) (.slice k1 T.kept.length k2) (.slice k3 T.cache.length k4) T.left T.dark, .agg (dsC s2), .int .i64 20]) (by simp [results, Try.results24, go_sem, g0, g1, g2, g3, g4, i0, i1, i2, i3, i4, i5, dsC, Ta.trV]) rfl ⟨Ta.trV (n : Int) (.slice k1 T.kept.length k2) (.slice k3 T.cache.length k4) T.left T.dark, ?_, ?_, (by first | exact HBo.out.2.2.2.1 | exact hA ▸ HBo.out.2.2.2.1)⟩
                · rw [HAp.out]; rfl
                · rw [HAp.out]; exact HBo.out.2.2.2.2
              · obtain rfl : cd = 0 := by rw [HTl.out.2.2, if_neg g0]
                have hne : ((0 : Int) != 0) = false := rfl
                have HAp := Lib.hid (show append s b t = (T, { s with tail := s.tail + j }, 0) from by
                  have hw := HWo.out
                  rw [if_neg g0] at hw
                  have h1 := append_goes (t := t) HPl.out.1 (by rw [← HO.out]; exact HG2.out.1) HG2.out.2 (by rw [← HO.out, hw])
                  rw [h1, ← HO.out, hw, HTl.out.2.1])
                have d4 := HLy.out.sp.cells.2.2.2.2.1
                have f4 := HLy.out.sp.free 4
                have hwt : IntKind.i64.wrap ((s.tail : Int) + (j : Int)) = (s.tail : Int) + (j : Int) := by rw [IntKind.wrap_i64] <;> omega
                have HL2 := Lib.hid (HLy.out.cell 4 (.int .i64 ((s.tail : Int) + (j : Int))) (s' := { s with tail := s.tail + j }) (by simp [dsC]))
                clear g0
                go_upto_region 22 with fail
                clear d4 f4 HLy hwt
                generalize Z.setCell ⟨B, 4, none⟩ (.int .i64 ((s.tail : Int) + (j : Int))) = Z2 at *
                obtain ⟨s2, hs2⟩ : ∃ s2 : S, s2 = { s with tail := s.tail + j } := ⟨_, rfl⟩
                rw [← hs2] at HAp HL2
                clear hs2
                have HDr := Lib.hid (HL2.out.on (Below.refl Z2.heap.size Z2).drew)
                have HF := Lib.hid (show ∀ x, Turns (fun k => k = C ∨ k = D) Z2.drew x → (x.cell? ⟨A, 0, none⟩ = some (.int .i64 (n : Int)) ∧ x.cell? ⟨A, 1, none⟩ = some (.slice k1 T.kept.length k2) ∧ x.cell? ⟨A, 2, none⟩ = some (.slice k3 T.cache.length k4) ∧ x.cell? ⟨A, 3, none⟩ = some (.int .i64 T.left) ∧ x.cell? ⟨A, 4, none⟩ = some (.bool T.dark)) ∧ _ from fun x hx =>
                  ⟨(HDr.out.tr.turn hx (by have := HDr.out.ord; omega)).cells, (HDr.out.sp.turn hx (by have := HDr.out.ord; omega)).cells⟩)
                refine Order.beginE (fun x => Turns (fun k => k = C ∨ k = D) Z2.drew x) [] (by kernel_rfl) ?_
                refine Order.readsE_any (idx := [0, 1]) (by kernel_rfl) (Turns.refl _ _) (fun _ _ _ _ _ h => Order.noPanic_put h) 3 _ _ (by decide +kernel) ?_
                simp only [Order.pick, List.getElem?_toArray, List.getElem?_cons_zero, List.getElem?_cons_succ]
                repeat (first
                  | (refine Order.reads_off (by rfl) ?_
                     simp only [Act.put, List.setIfInBounds_toArray, List.set_cons_zero, List.set_cons_succ])
                  | (apply Order.reads_on
                     · rfl
                     · intro x hx
                       first
                         | (obtain ⟨⟨c0, c1, c2, c3, c4⟩, d0, d1, d2, d3, d4, d5⟩ := HF.out x hx
                            exact Order.load_at rfl rfl (by assumption))
                         | (go_simp; rfl)
                         | (obtain ⟨⟨c0, c1, c2, c3, c4⟩, d0, d1, d2, d3, d4, d5⟩ := HF.out x hx
                            go_simp; rfl)
                     simp only [Act.put, List.setIfInBounds_toArray, List.set_cons_zero, List.set_cons_succ]))
                refine Order.reads_end ?_
                have HEZ := Lib.hid (Turns.refl (fun k => k = C ∨ k = D) Z2.drew)
                generalize Z2.drew = V at *
                have HDn := Lib.hid HDr.out.done
                obtain ⟨f0, f1, f2, f3, f4⟩ := HDr.out.r6.free
                obtain ⟨q0, q1, q2, q3, q4⟩ := HDr.out.r6.cells
                apply Order.actE (i := 2)
                · rfl
                · decide +kernel
                · rfl
                unfold Oper.wp
                go_simp
                obtain ⟨X5, hX5⟩ : ∃ x, x = st5 V C (.int .i64 (n : Int)) (.slice k1 T.kept.length k2) (.slice k3 T.cache.length k4) (.int .i64 T.left) (.bool T.dark) := ⟨_, rfl⟩
                rw [← hX5] at HDn
                unfold st5 at hX5
                rw [← hX5]
                refine ⟨HDn.out.1, ?_⟩
                clear f0 f1 f2 f3 f4 q0 q1 q2 q3 q4 hX5
                have HBo := Lib.hid (HDr.out.both HDn.out.1 HDn.out.2.1 HDn.out.2.2)
                have r0 := HDn.out.2.2.free 0
                have r1 := HDn.out.2.2.free 1
                have r2 := HDn.out.2.2.free 2
                have r3 := HDn.out.2.2.free 3
                have r4 := HDn.out.2.2.free 4
                have r5 := HDn.out.2.2.free 5
                obtain ⟨z0, z1, z2, z3, z4, z5⟩ := HDn.out.2.2.cells
                apply Order.actE (i := 3)
                · rfl
                · decide +kernel
                · rfl
                unfold Oper.wp
                go_simp
                obtain ⟨X6, hX6⟩ : ∃ x, x = st6 X5 D s2 := ⟨_, rfl⟩
                rw [← hX6] at HBo
                unfold st6 at hX6
                rw [← hX6]
                refine ⟨HBo.out.1, ?_⟩
                clear r0 r1 r2 r3 r4 r5 z0 z1 z2 z3 z4 z5 hX6
                refine Order.readsE_any (idx := [4]) (by kernel_rfl) HBo.out.1 (fun _ _ _ _ _ h => Order.noPanic_put h) 0 _ _ (by decide +kernel) ?_
                simp only [Order.pick, List.getElem?_toArray, List.getElem?_cons_zero, List.getElem?_cons_succ]
                repeat (first
                  | (refine Order.reads_off (by rfl) ?_
                     simp only [Act.put, List.setIfInBounds_toArray, List.set_cons_zero, List.set_cons_succ])
                  | (apply Order.reads_on
                     · rfl
                     · intro x hx
                       first
                         | (go_simp; rfl)
                         | (fail
                            go_simp; rfl)
                     simp only [Act.put, List.setIfInBounds_toArray, List.set_cons_zero, List.set_cons_succ]))
                refine Order.reads_end ?_
                refine Order.doneE (by decide +kernel) ?_ _
                refine NoPanic.normal ?_
                go_wp2_with fail
                obtain ⟨g0, g1, g2, g3, g4⟩ := HBo.out.2.1.cells
                obtain ⟨i0, i1, i2, i3, i4, i5⟩ := HBo.out.2.2.1.cells
                refine bodyPost_ret (v := .tuple #[Ta.trV (n : Int) (.slice k1 T.kept.length k2) (.slice k3 T.cache.length k4) T.left T.dark, .agg (dsC s2), .int .i64 0]) (by simp [results, Try.results24, go_sem, g0, g1, g2, g3, g4, i0, i1, i2, i3, i4, i5, dsC, Ta.trV]) rfl ⟨Ta.trV (n : Int) (.slice k1 T.kept.length k2) (.slice k3 T.cache.length k4) T.left T.dark, ?_, ?_, (by first | exact HBo.out.2.2.2.1 | exact hA ▸ HBo.out.2.2.2.1)⟩
                · rw [HAp.out]; rfl
                · rw [HAp.out]; exact HBo.out.2.2.2.2
end Sp
end Go.Proofs.Ytkfmmdiflbnhgaa
