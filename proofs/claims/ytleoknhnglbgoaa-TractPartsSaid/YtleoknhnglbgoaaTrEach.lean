/-
  Layer 5 (tract): eachPart: an expression and all within it are shown to a function.
-/
import Derived.Test.YtleoknhnglbgoaaTrMem
import Derived.Test.YtleoknhnglbgoaaTrThr
import Derived.Test.YtleoknhnglbgoaaTrAs
namespace Go.Proofs.Ytleoknhnglbgoaa
open Go.RowKit
namespace Tr
open Knot (Turns NewRow)

section
variable {σ : Type} (stp : σ → Nd → Bool → σ)
mutual
/-- What is left behind an expression and all within it. -/
def seen : Nd → Bool → σ → σ
  | .mk k a b l, odd, s => seens k l 0 odd (stp s (.mk k a b l) odd)
def seens (k : Int) : List Nd → Nat → Bool → σ → σ
  | [], _, _, s => s
  | n :: r, i, odd, s => seens k r (i + 1) odd (seen n (odd != flip k i) s)
end
theorem seens_append (k : Int) (odd : Bool) : ∀ (l m : List Nd) (i : Nat) (s : σ), seens stp k (l ++ m) i odd s = seens stp k m (i + l.length) odd (seens stp k l i odd s)
  | [], m, i, s => by simp [seens]
  | n :: l, m, i, s => by rw [List.cons_append, seens, seens, seens_append k odd l m (i + 1), List.length_cons, show i + 1 + l.length = i + (l.length + 1) by omega]
theorem seens_take (k : Int) (odd : Bool) {l : List Nd} {i : Nat} (h : i < l.length) (s : σ) : seens stp k (l.take (i + 1)) 0 odd s = seen stp l[i] (odd != flip k i) (seens stp k (l.take i) 0 odd s) := by
  rw [List.take_succ_eq_append_getElem h, seens_append, List.length_take, Nat.min_eq_left (by omega)]
  simp [seens]
end

/-- What a call did, that had the blocks of F, and has those of G. -/
structure After (F G : Nat → Prop) (w x : World) : Prop where
  turns : Turns F w x
  new : ∀ k, G k → F k ∨ w.heap.size ≤ k
theorem After.refl (F : Nat → Prop) (w : World) : After F F w w := ⟨Turns.refl _ _, fun _ h => .inl h⟩
theorem After.trans {F G H : Nat → Prop} {w x y : World} (h : After F G w x) (k : After G H x y) : After F H w y :=
  ⟨h.turns.trans k.turns fun b hb hg => (h.new b hg).resolve_right (by omega), fun b hb => by
    rcases k.new b hb with h1 | h1
    · exact h.new b h1
    · exact .inr (Nat.le_trans h.turns.size h1)⟩
theorem After.of_below {F : Nat → Prop} {w x : World} (h : Below w.heap.size w x) : After F F w x := ⟨Turns.of_below h, fun _ h => .inl h⟩
theorem After.then_below {F G H : Nat → Prop} {w x y : World} (h : After F G w x) (k : Below x.heap.size x y) (hs : ∀ k, H k → G k) : After F H w y := h.trans ⟨Turns.of_below k, fun b hb => .inl (hs b hb)⟩
theorem After.after_below {F G : Nat → Prop} {w x y : World} (h : Below w.heap.size w x) (k : After F G x y) : After F G w y := (After.of_below h).trans k

/-- A function that expressions are shown to. -/
structure Sees (W : World) (f : FuncId) (cap : Array Value) {σ : Type} (St : Nat → σ → World → Prop) (foot : World → Nat → Prop) (stp : σ → Nd → Bool → σ) : Prop where
  enter : ∀ args x, (callFunc f args).run Try.prog x = .ok (.enter f args) x
  low : ∀ m s x k, St m s x → foot x k → W.heap.size ≤ k ∧ k < x.heap.size
  keep : ∀ m s x y, St m s x → Below x.heap.size x y → St m s y
  same : ∀ m s x y, St m s x → Below x.heap.size x y → ∀ k, foot y k → foot x k
  see : ∀ m s x n u odd, St (m + 1) s x → good n = true → IsExpr 0 x n u → Calls Try.prog f (#[u, .bool odd] ++ cap) x fun e y => e = .returned (.tuple #[]) ∧ St m (stp s n odd) y ∧ After (foot x) (foot y) x y
theorem Sees.below {W : World} {f : FuncId} {cap : Array Value} {σ : Type} {St : Nat → σ → World → Prop} {foot : World → Nat → Prop} {stp : σ → Nd → Bool → σ} (h : Sees W f cap St foot stp) {m : Nat} {s : σ} {x y : World} {G : Nat → Prop} (hs : St m s x) (hW : W.heap.size ≤ x.heap.size) (ha : After (foot x) G x y) : Below W.heap.size x y :=
  ha.turns.below hW fun _ hk => (h.low _ _ _ _ hs hk).1

/-- What comes of a call that shows an expression. -/
def Shown {σ : Type} (St : Nat → σ → World → Prop) (foot : World → Nat → Prop) (m : Nat) (_s s' : σ) (x : World) (e : Ending) (y : World) : Prop :=
  e = .returned (.tuple #[]) ∧ St m s' y ∧ After (foot x) (foot y) x y

set_option maxHeartbeats 8000000 in
set_option maxRecDepth 100000 in
theorem each_any {W : World} {f : FuncId} {cap : Array Value} {σ : Type} {St : Nat → σ → World → Prop} {foot : World → Nat → Prop} {stp : σ → Nd → Bool → σ} (hS : Sees W f cap St foot stp) :
    ∀ (q : Nat) (n : Nd) (u : Value) (odd : Bool) (s : σ) (m : Nat) (w : World), size n ≤ q → size n ≤ 300 → good n = true → IsExpr 0 W n u → Below W.heap.size W w → St (size n + m) s w →
    Calls Try.prog 27 #[u, .bool odd, fnv f cap] w (Shown St foot m s (seen stp n odd s) w) := by
  intro q
  induction q with
  | zero => intro n u odd s m w h; have := size_pos n; omega
  | succ q ih =>
    intro n u odd s m w hk hl hg hn hW hst
    have HE := hS.enter
    have HS := Lib.hid hS
    cases n with
    | mk k a b l =>
    have hsz : size (.mk k a b l) = sizes l + 1 := by rw [size]; omega
    have hg2 := hg
    rw [good, Bool.and_eq_true] at hg2
    obtain ⟨hgs, hf⟩ := hg2
    have hC := hS.see (sizes l + m) s w (.mk k a b l) u odd (by rw [hsz] at hst; rwa [show sizes l + m + 1 = sizes l + 1 + m by omega]) hg ((hn.below hW))
    have HC := Lib.hid hC
    have HW := Lib.hid hW
    have HI := Lib.hid (show ∀ n ∈ l, ∀ u odd s m w, IsExpr 0 W n u → Below W.heap.size W w → St (size n + m) s w → Calls Try.prog 27 #[u, .bool odd, fnv f cap] w (Shown St foot m s (seen stp n odd s) w) from
      fun n hn u odd s m w => ih n u odd s m w (by have := sizes_mem hn; omega) (by have := sizes_mem hn; omega) (goods_mem hgs hn))
    have hseen : seen stp (.mk k a b l) odd s = seens stp k l 0 odd (stp s (.mk k a b l) odd) := by rw [seen]
    rw [hseen]
    generalize stp s (.mk k a b l) odd = s1 at *
    have hT := Lib.hid hst
    rw [fits] at hf
    rw [IsExpr] at hn
    clear hC hW ih hseen hS hst hg hgs
    rcases hn with ⟨rfl, rfl⟩ | ⟨rfl, rfl⟩ | ⟨rfl, rfl⟩ | ⟨rfl, g, o, cp, vs, rfl, -, hc, hk'⟩ | ⟨rfl, g, o, cp, vs, rfl, -, hc, hk'⟩ | ⟨rfl, x1, x2, rfl, hk'⟩
    · have hl0 : l = [] := by
        revert hf
        simp
      subst hl0
      have f1 := asUnion_This
      have f2 := asMeet_This
      have f3 := asExcept_This
      go_enter Try.func27, Try.ntmps27
      go_wp2_with fail
      refine HC.out.mono ?_
      rintro e y ⟨rfl, h1, h2⟩
      have H1 := Lib.hid (And.intro h1 h2)
      clear h1 h2 HC HI
      go_wp2_with fail
      go_end0
      have hb : Below y.heap.size y (((y.alloc (.cells #[.slice none 0 0] 66)).alloc (.cells #[.slice none 0 0] 67)).alloc (.cells #[.nilIface, .nilIface] 69)) := (((Below.refl _ _).alloc (Nat.le_refl _) _).alloc (by simp) _).alloc (by simp; omega) _
      rw [seens]
      rw [sizes, Nat.zero_add] at H1
      exact ⟨rfl, HS.out.keep _ _ _ _ H1.out.1 hb, H1.out.2.then_below hb (HS.out.same _ _ _ _ H1.out.1 hb)⟩
    · have hl0 : l = [] := by
        revert hf
        simp
      subst hl0
      have f1 := asUnion_Computed
      have f2 := asMeet_Computed
      have f3 := asExcept_Computed
      go_enter Try.func27, Try.ntmps27
      go_wp2_with fail
      refine HC.out.mono ?_
      rintro e y ⟨rfl, h1, h2⟩
      have H1 := Lib.hid (And.intro h1 h2)
      clear h1 h2 HC HI
      go_wp2_with fail
      go_end0
      have hb : Below y.heap.size y (((y.alloc (.cells #[.slice none 0 0] 66)).alloc (.cells #[.slice none 0 0] 67)).alloc (.cells #[.nilIface, .nilIface] 69)) := (((Below.refl _ _).alloc (Nat.le_refl _) _).alloc (by simp) _).alloc (by simp; omega) _
      rw [seens]
      rw [sizes, Nat.zero_add] at H1
      exact ⟨rfl, HS.out.keep _ _ _ _ H1.out.1 hb, H1.out.2.then_below hb (HS.out.same _ _ _ _ H1.out.1 hb)⟩
    · have hl0 : l = [] := by
        revert hf
        simp
      subst hl0
      have f1 := asUnion_Arrow
      have f2 := asMeet_Arrow
      have f3 := asExcept_Arrow
      go_enter Try.func27, Try.ntmps27
      go_wp2_with fail
      refine HC.out.mono ?_
      rintro e y ⟨rfl, h1, h2⟩
      have H1 := Lib.hid (And.intro h1 h2)
      clear h1 h2 HC HI
      go_wp2_with fail
      go_end0
      have hb : Below y.heap.size y (((y.alloc (.cells #[.slice none 0 0] 66)).alloc (.cells #[.slice none 0 0] 67)).alloc (.cells #[.nilIface, .nilIface] 69)) := (((Below.refl _ _).alloc (Nat.le_refl _) _).alloc (by simp) _).alloc (by simp; omega) _
      rw [seens]
      rw [sizes, Nat.zero_add] at H1
      exact ⟨rfl, HS.out.keep _ _ _ _ H1.out.1 hb, H1.out.2.then_below hb (HS.out.same _ _ _ _ H1.out.1 hb)⟩
    · have hlen := hk'.len
      have hll : l.length ≤ 300 := by have := sizes_len l; omega
      have HP := Lib.hid (And.intro hc hk')
      clear hc hk'
      have f1 := asUnion_hit
      have f2 := asMeet_Union
      have f3 := asExcept_Union
      go_enter Try.func27, Try.ntmps27
      go_wp2_with fail
      refine HC.out.mono ?_
      rintro e y ⟨rfl, h1, h2⟩
      have H1 := Lib.hid (And.intro h1 h2)
      clear h1 h2 HC
      go_wp2_with fail
      go_loopw [29] (fun i wr => ∃ j : Nat, j ≤ l.length ∧ i = .int .i64 j ∧ Hid (St (sizes (l.drop j) + m) (seens stp 4 (l.take j) 0 odd s1) wr ∧ After (foot w) (foot wr) w wr)) (fun i _ => l.length - (intOf i).toNat)
      case atStart =>
        refine ⟨0, by omega, rfl, Lib.hid ?_⟩
        rw [List.drop_zero, List.take_zero, seens]
        have hb : Below y.heap.size y (y.alloc (.cells #[.slice (some ⟨g, o, none⟩) l.length cp] 66)) := (Below.refl _ _).alloc (Nat.le_refl _) _
        exact ⟨HS.out.keep _ _ _ _ H1.out.1 hb, H1.out.2.then_below hb (HS.out.same _ _ _ _ H1.out.1 hb)⟩
      case round =>
        obtain ⟨j, hj, rfl, HJ⟩ := hrel
        clear H1
        by_cases hlt : j < l.length
        · have hbW : Below W.heap.size W wr := HW.out.trans (HS.out.below hT.out HW.out.size HJ.out.2)
          obtain ⟨pv, hix, hgb, c0, hpn⟩ := part_at HP.out.1 HP.out.2 hlt (cap := cp)
          have c1 := (hbW.cell (p := ⟨g, o + j, none⟩) hgb).trans c0
          obtain ⟨pt, px, rfl⟩ := hpn.iface
          have hdrop : sizes (l.drop j) = size l[j] + sizes (l.drop (j + 1)) := by rw [List.drop_eq_getElem_cons hlt, sizes]
          have hC := HI.out l[j] (List.getElem_mem hlt) _ odd (seens stp 4 (l.take j) 0 odd s1) (sizes (l.drop (j + 1)) + m) wr hpn hbW (by rw [← Nat.add_assoc, ← hdrop]; exact HJ.out.1)
          have htk := seens_take stp 4 odd hlt s1
          rw [show flip 4 j = false from by simp [flip], Bool.bne_false] at htk
          rw [← htk] at hC
          have HC := Lib.hid hC
          have hj3 : j ≤ 300 := by omega
          clear hbW hC htk hdrop c0 hpn hgb
          go_wp2_with fail
          refine HC.out.mono ?_
          rintro e x ⟨rfl, h1, h2⟩
          have H2 := Lib.hid (And.intro h1 (HJ.out.2.trans h2))
          clear h1 h2 HC HJ
          go_wp2_with fail
          go_roundw
          case rel => exact ⟨j + 1, by omega, by go_num, H2⟩
          case measure => simp [intOf]; omega
        · have hj' : j = l.length := by omega
          subst hj'
          have hJ := HJ.out
          rw [List.drop_length, List.take_length, sizes, Nat.zero_add] at hJ
          have HJ2 := Lib.hid hJ
          clear HJ hJ HP HI
          go_wp2_with fail
          go_end0
          have hb : Below wr.heap.size wr ((wr.alloc (.cells #[.slice none 0 0] 67)).alloc (.cells #[.nilIface, .nilIface] 69)) := ((Below.refl _ _).alloc (Nat.le_refl _) _).alloc (by simp) _
          exact ⟨rfl, HS.out.keep _ _ _ _ HJ2.out.1 hb, HJ2.out.2.then_below hb (HS.out.same _ _ _ _ HJ2.out.1 hb)⟩
    · have hlen := hk'.len
      have hll : l.length ≤ 300 := by have := sizes_len l; omega
      have HP := Lib.hid (And.intro hc hk')
      clear hc hk'
      have f1 := asUnion_Meet
      have f2 := asMeet_hit
      have f3 := asExcept_Meet
      go_enter Try.func27, Try.ntmps27
      go_wp2_with fail
      refine HC.out.mono ?_
      rintro e y ⟨rfl, h1, h2⟩
      have H1 := Lib.hid (And.intro h1 h2)
      clear h1 h2 HC
      go_wp2_with fail
      go_loopw [47] (fun i wr => ∃ j : Nat, j ≤ l.length ∧ i = .int .i64 j ∧ Hid (St (sizes (l.drop j) + m) (seens stp 5 (l.take j) 0 odd s1) wr ∧ After (foot w) (foot wr) w wr)) (fun i _ => l.length - (intOf i).toNat)
      case atStart =>
        refine ⟨0, by omega, rfl, Lib.hid ?_⟩
        rw [List.drop_zero, List.take_zero, seens]
        have hb : Below y.heap.size y ((y.alloc (.cells #[.slice none 0 0] 66)).alloc (.cells #[.slice (some ⟨g, o, none⟩) l.length cp] 67)) := ((Below.refl _ _).alloc (Nat.le_refl _) _).alloc (by simp) _
        exact ⟨HS.out.keep _ _ _ _ H1.out.1 hb, H1.out.2.then_below hb (HS.out.same _ _ _ _ H1.out.1 hb)⟩
      case round =>
        obtain ⟨j, hj, rfl, HJ⟩ := hrel
        clear H1
        by_cases hlt : j < l.length
        · have hbW : Below W.heap.size W wr := HW.out.trans (HS.out.below hT.out HW.out.size HJ.out.2)
          obtain ⟨pv, hix, hgb, c0, hpn⟩ := part_at HP.out.1 HP.out.2 hlt (cap := cp)
          have c1 := (hbW.cell (p := ⟨g, o + j, none⟩) hgb).trans c0
          obtain ⟨pt, px, rfl⟩ := hpn.iface
          have hdrop : sizes (l.drop j) = size l[j] + sizes (l.drop (j + 1)) := by rw [List.drop_eq_getElem_cons hlt, sizes]
          have hC := HI.out l[j] (List.getElem_mem hlt) _ odd (seens stp 5 (l.take j) 0 odd s1) (sizes (l.drop (j + 1)) + m) wr hpn hbW (by rw [← Nat.add_assoc, ← hdrop]; exact HJ.out.1)
          have htk := seens_take stp 5 odd hlt s1
          rw [show flip 5 j = false from by simp [flip], Bool.bne_false] at htk
          rw [← htk] at hC
          have HC := Lib.hid hC
          have hj3 : j ≤ 300 := by omega
          clear hbW hC htk hdrop c0 hpn hgb
          go_wp2_with fail
          refine HC.out.mono ?_
          rintro e x ⟨rfl, h1, h2⟩
          have H2 := Lib.hid (And.intro h1 (HJ.out.2.trans h2))
          clear h1 h2 HC HJ
          go_wp2_with fail
          go_roundw
          case rel => exact ⟨j + 1, by omega, by go_num, H2⟩
          case measure => simp [intOf]; omega
        · have hj' : j = l.length := by omega
          subst hj'
          have hJ := HJ.out
          rw [List.drop_length, List.take_length, sizes, Nat.zero_add] at hJ
          have HJ2 := Lib.hid hJ
          clear HJ hJ HP HI
          go_wp2_with fail
          go_end0
          have hb : Below wr.heap.size wr (wr.alloc (.cells #[.nilIface, .nilIface] 69)) := (Below.refl _ _).alloc (Nat.le_refl _) _
          exact ⟨rfl, HS.out.keep _ _ _ _ HJ2.out.1 hb, HJ2.out.2.then_below hb (HS.out.same _ _ _ _ HJ2.out.1 hb)⟩
    · have hlen := hk'.len
      obtain ⟨m0, m1, rfl⟩ : ∃ m0 m1, l = [m0, m1] := by
        match l, hlen with
        | [m0, m1], _ => exact ⟨m0, m1, rfl⟩
      rw [IsExprs] at hk'
      obtain ⟨v0, vr, e0, hn0, hk'⟩ := hk'
      rw [IsExprs] at hk'
      obtain ⟨v1, vr', rfl, hn1, hk'⟩ := hk'
      rw [IsExprs] at hk'
      subst hk'
      obtain ⟨rfl, rfl⟩ : x1 = v0 ∧ x2 = v1 := by simpa using e0
      obtain ⟨t0, z0, rfl⟩ := hn0.iface
      obtain ⟨t1, z1, rfl⟩ := hn1.iface
      have hfin : seens stp 6 [m0, m1] 0 odd s1 = seen stp m1 (!odd) (seen stp m0 odd s1) := by
        rw [seens, seens, seens, show flip 6 0 = false from rfl, show flip 6 (0 + 1) = true from rfl, Bool.bne_false, Bool.bne_true]
      have hsum : sizes [m0, m1] + m = size m0 + (size m1 + m) := by rw [sizes, sizes, sizes]; omega
      have HP := Lib.hid (And.intro hn0 hn1)
      have HF := Lib.hid (And.intro hfin hsum)
      clear hn0 hn1 e0 hlen hf hfin hsum hsz
      have f1 := asUnion_Except
      have f2 := asMeet_Except
      have f3 := asExcept_hit
      go_enter Try.func27, Try.ntmps27
      go_wp2_with fail
      refine HC.out.mono ?_
      rintro e y ⟨rfl, h1, h2⟩
      have hb : Below y.heap.size y (((y.alloc (.cells #[.slice none 0 0] 66)).alloc (.cells #[.slice none 0 0] 67)).alloc (.cells #[.iface t0 z0, .iface t1 z1] 69)) := (((Below.refl _ _).alloc (Nat.le_refl _) _).alloc (by simp) _).alloc (by simp; omega) _
      have hbx : (((y.alloc (.cells #[.slice none 0 0] 66)).alloc (.cells #[.slice none 0 0] 67)).alloc (.cells #[.iface t0 z0, .iface t1 z1] 69)).heap[y.heap.size + 2]? = some (.cells #[.iface t0 z0, .iface t1 z1] 69 (0, 0)) := by
        have := heap_alloc_new ((y.alloc (.cells #[.slice none 0 0] 66)).alloc (.cells #[.slice none 0 0] 67)) (.cells #[.iface t0 z0, .iface t1 z1] 69)
        simpa using this
      have hst1 := HS.out.keep _ _ _ _ h1 hb
      have hst1' := hst1
      rw [HF.out.2] at hst1'
      have hW1 : Below W.heap.size W y := HW.out.trans (HS.out.below hT.out HW.out.size h2)
      have hC1 := HI.out m0 (by simp) _ odd s1 (size m1 + m) _ HP.out.1 (hW1.trans (hb.mono hW1.size)) hst1'
      have hnf := fun h => by have := (HS.out.low _ _ _ _ h1 (HS.out.same _ _ _ _ h1 hb (y.heap.size + 2) h)).2; omega
      have HC1 := Lib.hid hC1
      have HY := Lib.hid (And.intro hbx (And.intro hnf (And.intro (h2.then_below hb (HS.out.same _ _ _ _ h1 hb)) (And.intro hst1 (hW1.trans (hb.mono hW1.size))))))
      clear h1 h2 HC hb hbx hst1 hst1' hW1 hC1 hnf
      go_wp2_with fail
      refine HC1.out.mono ?_
      rintro e z ⟨rfl, h1, h2⟩
      have hbz := (h2.turns.block (y.heap.size + 2) (by simp) fun h => by have := HY.out.2.1 h; omega).trans HY.out.1
      have c0 : z.cell? ⟨y.heap.size + 2, 0, none⟩ = some (.iface t0 z0) := by rw [Lib.cell_of_heap hbz]; rfl
      have c1 : z.cell? ⟨y.heap.size + 2, 1, none⟩ = some (.iface t1 z1) := by rw [Lib.cell_of_heap hbz]; rfl
      have hW2 := HY.out.2.2.2.2.trans (HS.out.below HY.out.2.2.2.1 HY.out.2.2.2.2.size h2)
      have hC2 := HI.out m1 (by simp) _ (!odd) (seen stp m0 odd s1) m z HP.out.2 hW2 h1
      have HC2 := Lib.hid hC2
      have HZ := Lib.hid (HY.out.2.2.1.trans h2)
      clear h1 h2 HC1 hbz hW2 hC2 HY
      go_wp2_with fail
      refine HC2.out.mono ?_
      rintro e z' ⟨rfl, h1, h2⟩
      have H2 := Lib.hid (And.intro h1 (HZ.out.trans h2))
      clear h1 h2 HC2 HZ
      go_wp2_with fail
      go_end0
      rw [HF.out.1]
      exact ⟨rfl, H2.out⟩
end Tr
end Go.Proofs.Ytleoknhnglbgoaa
