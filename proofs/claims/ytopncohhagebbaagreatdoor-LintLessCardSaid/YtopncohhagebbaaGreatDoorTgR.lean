/-
  Layer 5 (tract): type assertions at each of the six types, for every world.
  Layer 5 (tract): eachPart: an expression and all within it are shown to a function.
  Layer 5 (tract): reference, plain: what an expression itself is.
  Layer 5 (tract): Refs, Direct, Plain, of an expression.
-/
import Derived.Test.YtopncohhagebbaaGreatDoorTrMem
import Derived.Test.YtopncohhagebbaaGreatDoorTrThr
import Derived.Test.YtopncohhagebbaaGreatDoorTrBuild
import Derived.Test.YtopncohhagebbaaGreatDoorMgMem
namespace Go.Proofs.YtopncohhagebbaaGreatDoor
open Go.RowKit
namespace Tr

theorem asThis_hit (x : Value) (W : World) : (Instr.typeAssert (.iface 215 x) 88 215 true).run Tryz.prog W = .ok (.tuple #[x, .bool true]) W := by kernel_rfl
theorem asThis_Computed (x : Value) (W : World) : (Instr.typeAssert (.iface 204 x) 88 215 true).run Tryz.prog W = .ok (.tuple #[.agg #[], .bool false]) W := by kernel_rfl
theorem asThis_Arrow (x : Value) (W : World) : (Instr.typeAssert (.iface 206 x) 88 215 true).run Tryz.prog W = .ok (.tuple #[.agg #[], .bool false]) W := by kernel_rfl
theorem asThis_Union (x : Value) (W : World) : (Instr.typeAssert (.iface 210 x) 88 215 true).run Tryz.prog W = .ok (.tuple #[.agg #[], .bool false]) W := by kernel_rfl
theorem asThis_Meet (x : Value) (W : World) : (Instr.typeAssert (.iface 211 x) 88 215 true).run Tryz.prog W = .ok (.tuple #[.agg #[], .bool false]) W := by kernel_rfl
theorem asThis_Except (x : Value) (W : World) : (Instr.typeAssert (.iface 213 x) 88 215 true).run Tryz.prog W = .ok (.tuple #[.agg #[], .bool false]) W := by kernel_rfl
theorem asComputed_hit (x : Value) (W : World) : (Instr.typeAssert (.iface 204 x) 88 204 true).run Tryz.prog W = .ok (.tuple #[x, .bool true]) W := by kernel_rfl
theorem asComputed_This (x : Value) (W : World) : (Instr.typeAssert (.iface 215 x) 88 204 true).run Tryz.prog W = .ok (.tuple #[.agg #[.string ⟨#[]⟩], .bool false]) W := by kernel_rfl
theorem asComputed_Arrow (x : Value) (W : World) : (Instr.typeAssert (.iface 206 x) 88 204 true).run Tryz.prog W = .ok (.tuple #[.agg #[.string ⟨#[]⟩], .bool false]) W := by kernel_rfl
theorem asComputed_Union (x : Value) (W : World) : (Instr.typeAssert (.iface 210 x) 88 204 true).run Tryz.prog W = .ok (.tuple #[.agg #[.string ⟨#[]⟩], .bool false]) W := by kernel_rfl
theorem asComputed_Meet (x : Value) (W : World) : (Instr.typeAssert (.iface 211 x) 88 204 true).run Tryz.prog W = .ok (.tuple #[.agg #[.string ⟨#[]⟩], .bool false]) W := by kernel_rfl
theorem asComputed_Except (x : Value) (W : World) : (Instr.typeAssert (.iface 213 x) 88 204 true).run Tryz.prog W = .ok (.tuple #[.agg #[.string ⟨#[]⟩], .bool false]) W := by kernel_rfl
theorem asArrow_hit (x : Value) (W : World) : (Instr.typeAssert (.iface 206 x) 88 206 true).run Tryz.prog W = .ok (.tuple #[x, .bool true]) W := by kernel_rfl
theorem asArrow_This (x : Value) (W : World) : (Instr.typeAssert (.iface 215 x) 88 206 true).run Tryz.prog W = .ok (.tuple #[.agg #[.string ⟨#[]⟩, .string ⟨#[]⟩], .bool false]) W := by kernel_rfl
theorem asArrow_Union (x : Value) (W : World) : (Instr.typeAssert (.iface 210 x) 88 206 true).run Tryz.prog W = .ok (.tuple #[.agg #[.string ⟨#[]⟩, .string ⟨#[]⟩], .bool false]) W := by kernel_rfl
theorem asArrow_Meet (x : Value) (W : World) : (Instr.typeAssert (.iface 211 x) 88 206 true).run Tryz.prog W = .ok (.tuple #[.agg #[.string ⟨#[]⟩, .string ⟨#[]⟩], .bool false]) W := by kernel_rfl
theorem asArrow_Except (x : Value) (W : World) : (Instr.typeAssert (.iface 213 x) 88 206 true).run Tryz.prog W = .ok (.tuple #[.agg #[.string ⟨#[]⟩, .string ⟨#[]⟩], .bool false]) W := by kernel_rfl
theorem asUnion_hit (x : Value) (W : World) : (Instr.typeAssert (.iface 210 x) 88 210 true).run Tryz.prog W = .ok (.tuple #[x, .bool true]) W := by kernel_rfl
theorem asUnion_This (x : Value) (W : World) : (Instr.typeAssert (.iface 215 x) 88 210 true).run Tryz.prog W = .ok (.tuple #[.agg #[.slice none 0 0], .bool false]) W := by kernel_rfl
theorem asUnion_Computed (x : Value) (W : World) : (Instr.typeAssert (.iface 204 x) 88 210 true).run Tryz.prog W = .ok (.tuple #[.agg #[.slice none 0 0], .bool false]) W := by kernel_rfl
theorem asUnion_Arrow (x : Value) (W : World) : (Instr.typeAssert (.iface 206 x) 88 210 true).run Tryz.prog W = .ok (.tuple #[.agg #[.slice none 0 0], .bool false]) W := by kernel_rfl
theorem asUnion_Meet (x : Value) (W : World) : (Instr.typeAssert (.iface 211 x) 88 210 true).run Tryz.prog W = .ok (.tuple #[.agg #[.slice none 0 0], .bool false]) W := by kernel_rfl
theorem asUnion_Except (x : Value) (W : World) : (Instr.typeAssert (.iface 213 x) 88 210 true).run Tryz.prog W = .ok (.tuple #[.agg #[.slice none 0 0], .bool false]) W := by kernel_rfl
theorem asMeet_hit (x : Value) (W : World) : (Instr.typeAssert (.iface 211 x) 88 211 true).run Tryz.prog W = .ok (.tuple #[x, .bool true]) W := by kernel_rfl
theorem asMeet_This (x : Value) (W : World) : (Instr.typeAssert (.iface 215 x) 88 211 true).run Tryz.prog W = .ok (.tuple #[.agg #[.slice none 0 0], .bool false]) W := by kernel_rfl
theorem asMeet_Computed (x : Value) (W : World) : (Instr.typeAssert (.iface 204 x) 88 211 true).run Tryz.prog W = .ok (.tuple #[.agg #[.slice none 0 0], .bool false]) W := by kernel_rfl
theorem asMeet_Arrow (x : Value) (W : World) : (Instr.typeAssert (.iface 206 x) 88 211 true).run Tryz.prog W = .ok (.tuple #[.agg #[.slice none 0 0], .bool false]) W := by kernel_rfl
theorem asMeet_Union (x : Value) (W : World) : (Instr.typeAssert (.iface 210 x) 88 211 true).run Tryz.prog W = .ok (.tuple #[.agg #[.slice none 0 0], .bool false]) W := by kernel_rfl
theorem asMeet_Except (x : Value) (W : World) : (Instr.typeAssert (.iface 213 x) 88 211 true).run Tryz.prog W = .ok (.tuple #[.agg #[.slice none 0 0], .bool false]) W := by kernel_rfl
theorem asExcept_hit (x : Value) (W : World) : (Instr.typeAssert (.iface 213 x) 88 213 true).run Tryz.prog W = .ok (.tuple #[x, .bool true]) W := by kernel_rfl
theorem asExcept_This (x : Value) (W : World) : (Instr.typeAssert (.iface 215 x) 88 213 true).run Tryz.prog W = .ok (.tuple #[.agg #[.nilIface, .nilIface], .bool false]) W := by kernel_rfl
theorem asExcept_Computed (x : Value) (W : World) : (Instr.typeAssert (.iface 204 x) 88 213 true).run Tryz.prog W = .ok (.tuple #[.agg #[.nilIface, .nilIface], .bool false]) W := by kernel_rfl
theorem asExcept_Arrow (x : Value) (W : World) : (Instr.typeAssert (.iface 206 x) 88 213 true).run Tryz.prog W = .ok (.tuple #[.agg #[.nilIface, .nilIface], .bool false]) W := by kernel_rfl
theorem asExcept_Union (x : Value) (W : World) : (Instr.typeAssert (.iface 210 x) 88 213 true).run Tryz.prog W = .ok (.tuple #[.agg #[.nilIface, .nilIface], .bool false]) W := by kernel_rfl
theorem asExcept_Meet (x : Value) (W : World) : (Instr.typeAssert (.iface 211 x) 88 213 true).run Tryz.prog W = .ok (.tuple #[.agg #[.nilIface, .nilIface], .bool false]) W := by kernel_rfl
end Tr
end Go.Proofs.YtopncohhagebbaaGreatDoor

namespace Go.Proofs.YtopncohhagebbaaGreatDoor
open Go.RowKit
namespace Tr
open Knot (Turns NewRow)

section
variable {σ : Type} (stp : σ → Nd → Bool → σ)
mutual
def seen : Nd → Bool → σ → σ
  | .mk k a b l, odd, s => seens k l 0 odd (stp s (.mk k a b l) odd)
def seens (k : Int) : List Nd → Nat → Bool → σ → σ
  | [], _, _, s => s
  | n :: r, i, odd, s => seens k r (i + 1) odd (seen n (odd != flip k i) s)
end
theorem seens_append (k : Int) (odd : Bool) : ∀ (l m : List Nd) (i : Nat) (s : σ), seens stp k (l ++ m) i odd s = seens stp k m (i + l.length) odd (seens stp k l i odd s)
  | [], m, i, s => by simp [seens]
  | n :: l, m, i, s => by rw [List.cons_append, seens, seens, seens_append k odd l m (i + 1), List.length_cons, show i + 1 + l.length = i + (l.length + 1) by omega]
theorem seens_take (k : Int) (odd : Bool) {l : List Nd} {i : Nat} (h : i < l.length) (s : σ) : seens stp k (l.take (i + 1)) 0 odd s = seen stp l[i] (odd != flip k i) (seens stp k (l.take i) 0 odd s) := by
  rw [List.take_succ_eq_append_getElem h, seens_append, List.length_take, Nat.min_eq_left (by omega)]
  simp [seens]
end

structure After (F G : Nat → Prop) (w x : World) : Prop where
  turns : Turns F w x
  new : ∀ k, G k → F k ∨ w.heap.size ≤ k
theorem After.refl (F : Nat → Prop) (w : World) : After F F w w := ⟨Turns.refl _ _, fun _ h => .inl h⟩
theorem After.trans {F G H : Nat → Prop} {w x y : World} (h : After F G w x) (k : After G H x y) : After F H w y :=
  ⟨h.turns.trans k.turns fun b hb hg => (h.new b hg).resolve_right (by omega), fun b hb => by
    rcases k.new b hb with h1 | h1
    · exact h.new b h1
    · exact .inr (Nat.le_trans h.turns.size h1)⟩
theorem After.of_below {F : Nat → Prop} {w x : World} (h : Below w.heap.size w x) : After F F w x := ⟨Turns.of_below h, fun _ h => .inl h⟩
theorem After.then_below {F G H : Nat → Prop} {w x y : World} (h : After F G w x) (k : Below x.heap.size x y) (hs : ∀ k, H k → G k) : After F H w y := h.trans ⟨Turns.of_below k, fun b hb => .inl (hs b hb)⟩
theorem After.after_below {F G : Nat → Prop} {w x y : World} (h : Below w.heap.size w x) (k : After F G x y) : After F G w y := (After.of_below h).trans k

structure Sees (W : World) (f : FuncId) (cap : Array Value) {σ : Type} (St : Nat → σ → World → Prop) (foot : World → Nat → Prop) (stp : σ → Nd → Bool → σ) : Prop where
  enter : ∀ args x, (callFunc f args).run Tryz.prog x = .ok (.enter f args) x
  low : ∀ m s x k, St m s x → foot x k → W.heap.size ≤ k ∧ k < x.heap.size
  keep : ∀ m s x y, St m s x → Below x.heap.size x y → St m s y
  same : ∀ m s x y, St m s x → Below x.heap.size x y → ∀ k, foot y k → foot x k
  see : ∀ m s x n u odd, St (m + 1) s x → good n = true → IsExpr 0 x n u → Calls Tryz.prog f (#[u, .bool odd] ++ cap) x fun e y => e = .returned (.tuple #[]) ∧ St m (stp s n odd) y ∧ After (foot x) (foot y) x y
theorem Sees.below {W : World} {f : FuncId} {cap : Array Value} {σ : Type} {St : Nat → σ → World → Prop} {foot : World → Nat → Prop} {stp : σ → Nd → Bool → σ} (h : Sees W f cap St foot stp) {m : Nat} {s : σ} {x y : World} {G : Nat → Prop} (hs : St m s x) (hW : W.heap.size ≤ x.heap.size) (ha : After (foot x) G x y) : Below W.heap.size x y :=
  ha.turns.below hW fun _ hk => (h.low _ _ _ _ hs hk).1

def Shown {σ : Type} (St : Nat → σ → World → Prop) (foot : World → Nat → Prop) (m : Nat) (_s s' : σ) (x : World) (e : Ending) (y : World) : Prop :=
  e = .returned (.tuple #[]) ∧ St m s' y ∧ After (foot x) (foot y) x y

set_option maxHeartbeats 8000000 in
set_option maxRecDepth 100000 in
theorem each_any {W : World} {f : FuncId} {cap : Array Value} {σ : Type} {St : Nat → σ → World → Prop} {foot : World → Nat → Prop} {stp : σ → Nd → Bool → σ} (hS : Sees W f cap St foot stp) :
    ∀ (q : Nat) (n : Nd) (u : Value) (odd : Bool) (s : σ) (m : Nat) (w : World), size n ≤ q → size n ≤ 300 → good n = true → IsExpr 0 W n u → Below W.heap.size W w → St (size n + m) s w →
    Calls Tryz.prog 142 #[u, .bool odd, fnv f cap] w (Shown St foot m s (seen stp n odd s) w) := by
  intro q
  induction q with
  | zero => intro n u odd s m w h; have := size_pos n; omega
  | succ q ih =>
    intro n u odd s m w hk hl hg hn hW hst
    have HE := hS.enter
    have HS := Lib.hid hS
    cases n with
    | mk k a b l =>
    have hsz : size (.mk k a b l) = sizes l + 1 := by rw [size]; omega
    have hg2 := hg
    rw [good, Bool.and_eq_true] at hg2
    obtain ⟨hgs, hf⟩ := hg2
    have hC := hS.see (sizes l + m) s w (.mk k a b l) u odd (by rw [hsz] at hst; rwa [show sizes l + m + 1 = sizes l + 1 + m by omega]) hg ((hn.below hW))
    have HC := Lib.hid hC
    have HW := Lib.hid hW
    have HI := Lib.hid (show ∀ n ∈ l, ∀ u odd s m w, IsExpr 0 W n u → Below W.heap.size W w → St (size n + m) s w → Calls Tryz.prog 142 #[u, .bool odd, fnv f cap] w (Shown St foot m s (seen stp n odd s) w) from
      fun n hn u odd s m w => ih n u odd s m w (by have := sizes_mem hn; omega) (by have := sizes_mem hn; omega) (goods_mem hgs hn))
    have hseen : seen stp (.mk k a b l) odd s = seens stp k l 0 odd (stp s (.mk k a b l) odd) := by rw [seen]
    rw [hseen]
    generalize stp s (.mk k a b l) odd = s1 at *
    have hT := Lib.hid hst
    rw [fits] at hf
    rw [IsExpr] at hn
    clear hC hW ih hseen hS hst hg hgs
    rcases hn with ⟨rfl, rfl⟩ | ⟨rfl, rfl⟩ | ⟨rfl, rfl⟩ | ⟨rfl, g, o, cp, vs, rfl, -, hc, hk'⟩ | ⟨rfl, g, o, cp, vs, rfl, -, hc, hk'⟩ | ⟨rfl, x1, x2, rfl, hk'⟩
    · have hl0 : l = [] := by
        revert hf
        simp
      subst hl0
      have f1 := asUnion_This
      have f2 := asMeet_This
      have f3 := asExcept_This
      go_enter Tryz.func142, Tryz.ntmps142
      go_wp2_with fail
      refine HC.out.mono ?_
      rintro e y ⟨rfl, h1, h2⟩
      have H1 := Lib.hid (And.intro h1 h2)
      clear h1 h2 HC HI
      go_wp2_with fail
      go_end0
      have hb : Below y.heap.size y (((y.alloc (.cells #[.slice none 0 0] 210)).alloc (.cells #[.slice none 0 0] 211)).alloc (.cells #[.nilIface, .nilIface] 213)) := (((Below.refl _ _).alloc (Nat.le_refl _) _).alloc (by simp) _).alloc (by simp; omega) _
      rw [seens]
      rw [sizes, Nat.zero_add] at H1
      exact ⟨rfl, HS.out.keep _ _ _ _ H1.out.1 hb, H1.out.2.then_below hb (HS.out.same _ _ _ _ H1.out.1 hb)⟩
    · have hl0 : l = [] := by
        revert hf
        simp
      subst hl0
      have f1 := asUnion_Computed
      have f2 := asMeet_Computed
      have f3 := asExcept_Computed
      go_enter Tryz.func142, Tryz.ntmps142
      go_wp2_with fail
      refine HC.out.mono ?_
      rintro e y ⟨rfl, h1, h2⟩
      have H1 := Lib.hid (And.intro h1 h2)
      clear h1 h2 HC HI
      go_wp2_with fail
      go_end0
      have hb : Below y.heap.size y (((y.alloc (.cells #[.slice none 0 0] 210)).alloc (.cells #[.slice none 0 0] 211)).alloc (.cells #[.nilIface, .nilIface] 213)) := (((Below.refl _ _).alloc (Nat.le_refl _) _).alloc (by simp) _).alloc (by simp; omega) _
      rw [seens]
      rw [sizes, Nat.zero_add] at H1
      exact ⟨rfl, HS.out.keep _ _ _ _ H1.out.1 hb, H1.out.2.then_below hb (HS.out.same _ _ _ _ H1.out.1 hb)⟩
    · have hl0 : l = [] := by
        revert hf
        simp
      subst hl0
      have f1 := asUnion_Arrow
      have f2 := asMeet_Arrow
      have f3 := asExcept_Arrow
      go_enter Tryz.func142, Tryz.ntmps142
      go_wp2_with fail
      refine HC.out.mono ?_
      rintro e y ⟨rfl, h1, h2⟩
      have H1 := Lib.hid (And.intro h1 h2)
      clear h1 h2 HC HI
      go_wp2_with fail
      go_end0
      have hb : Below y.heap.size y (((y.alloc (.cells #[.slice none 0 0] 210)).alloc (.cells #[.slice none 0 0] 211)).alloc (.cells #[.nilIface, .nilIface] 213)) := (((Below.refl _ _).alloc (Nat.le_refl _) _).alloc (by simp) _).alloc (by simp; omega) _
      rw [seens]
      rw [sizes, Nat.zero_add] at H1
      exact ⟨rfl, HS.out.keep _ _ _ _ H1.out.1 hb, H1.out.2.then_below hb (HS.out.same _ _ _ _ H1.out.1 hb)⟩
    · have hlen := hk'.len
      have hll : l.length ≤ 300 := by have := sizes_len l; omega
      have HP := Lib.hid (And.intro hc hk')
      clear hc hk'
      have f1 := asUnion_hit
      have f2 := asMeet_Union
      have f3 := asExcept_Union
      go_enter Tryz.func142, Tryz.ntmps142
      go_wp2_with fail
      refine HC.out.mono ?_
      rintro e y ⟨rfl, h1, h2⟩
      have H1 := Lib.hid (And.intro h1 h2)
      clear h1 h2 HC
      go_wp2_with fail
      go_loopw [29] (fun i wr => ∃ j : Nat, j ≤ l.length ∧ i = .int .i64 j ∧ Hid (St (sizes (l.drop j) + m) (seens stp 4 (l.take j) 0 odd s1) wr ∧ After (foot w) (foot wr) w wr)) (fun i _ => l.length - (intOf i).toNat)
      case atStart =>
        refine ⟨0, by omega, rfl, Lib.hid ?_⟩
        rw [List.drop_zero, List.take_zero, seens]
        have hb : Below y.heap.size y (y.alloc (.cells #[.slice (some ⟨g, o, none⟩) l.length cp] 210)) := (Below.refl _ _).alloc (Nat.le_refl _) _
        exact ⟨HS.out.keep _ _ _ _ H1.out.1 hb, H1.out.2.then_below hb (HS.out.same _ _ _ _ H1.out.1 hb)⟩
      case round =>
        obtain ⟨j, hj, rfl, HJ⟩ := hrel
        clear H1
        by_cases hlt : j < l.length
        · have hbW : Below W.heap.size W wr := HW.out.trans (HS.out.below hT.out HW.out.size HJ.out.2)
          obtain ⟨pv, hix, hgb, c0, hpn⟩ := part_at HP.out.1 HP.out.2 hlt (cap := cp)
          have c1 := (hbW.cell (p := ⟨g, o + j, none⟩) hgb).trans c0
          obtain ⟨pt, px, rfl⟩ := hpn.iface
          have hdrop : sizes (l.drop j) = size l[j] + sizes (l.drop (j + 1)) := by rw [List.drop_eq_getElem_cons hlt, sizes]
          have hC := HI.out l[j] (List.getElem_mem hlt) _ odd (seens stp 4 (l.take j) 0 odd s1) (sizes (l.drop (j + 1)) + m) wr hpn hbW (by rw [← Nat.add_assoc, ← hdrop]; exact HJ.out.1)
          have htk := seens_take stp 4 odd hlt s1
          rw [show flip 4 j = false from by simp [flip], Bool.bne_false] at htk
          rw [← htk] at hC
          have HC := Lib.hid hC
          have hj3 : j ≤ 300 := by omega
          clear hbW hC htk hdrop c0 hpn hgb
          go_wp2_with fail
          refine HC.out.mono ?_
          rintro e x ⟨rfl, h1, h2⟩
          have H2 := Lib.hid (And.intro h1 (HJ.out.2.trans h2))
          clear h1 h2 HC HJ
          go_wp2_with fail
          go_roundw
          case rel => exact ⟨j + 1, by omega, by go_num, H2⟩
          case measure => simp [intOf]; omega
        · have hj' : j = l.length := by omega
          subst hj'
          have hJ := HJ.out
          rw [List.drop_length, List.take_length, sizes, Nat.zero_add] at hJ
          have HJ2 := Lib.hid hJ
          clear HJ hJ HP HI
          go_wp2_with fail
          go_end0
          have hb : Below wr.heap.size wr ((wr.alloc (.cells #[.slice none 0 0] 211)).alloc (.cells #[.nilIface, .nilIface] 213)) := ((Below.refl _ _).alloc (Nat.le_refl _) _).alloc (by simp) _
          exact ⟨rfl, HS.out.keep _ _ _ _ HJ2.out.1 hb, HJ2.out.2.then_below hb (HS.out.same _ _ _ _ HJ2.out.1 hb)⟩
    · have hlen := hk'.len
      have hll : l.length ≤ 300 := by have := sizes_len l; omega
      have HP := Lib.hid (And.intro hc hk')
      clear hc hk'
      have f1 := asUnion_Meet
      have f2 := asMeet_hit
      have f3 := asExcept_Meet
      go_enter Tryz.func142, Tryz.ntmps142
      go_wp2_with fail
      refine HC.out.mono ?_
      rintro e y ⟨rfl, h1, h2⟩
      have H1 := Lib.hid (And.intro h1 h2)
      clear h1 h2 HC
      go_wp2_with fail
      go_loopw [47] (fun i wr => ∃ j : Nat, j ≤ l.length ∧ i = .int .i64 j ∧ Hid (St (sizes (l.drop j) + m) (seens stp 5 (l.take j) 0 odd s1) wr ∧ After (foot w) (foot wr) w wr)) (fun i _ => l.length - (intOf i).toNat)
      case atStart =>
        refine ⟨0, by omega, rfl, Lib.hid ?_⟩
        rw [List.drop_zero, List.take_zero, seens]
        have hb : Below y.heap.size y ((y.alloc (.cells #[.slice none 0 0] 210)).alloc (.cells #[.slice (some ⟨g, o, none⟩) l.length cp] 211)) := ((Below.refl _ _).alloc (Nat.le_refl _) _).alloc (by simp) _
        exact ⟨HS.out.keep _ _ _ _ H1.out.1 hb, H1.out.2.then_below hb (HS.out.same _ _ _ _ H1.out.1 hb)⟩
      case round =>
        obtain ⟨j, hj, rfl, HJ⟩ := hrel
        clear H1
        by_cases hlt : j < l.length
        · have hbW : Below W.heap.size W wr := HW.out.trans (HS.out.below hT.out HW.out.size HJ.out.2)
          obtain ⟨pv, hix, hgb, c0, hpn⟩ := part_at HP.out.1 HP.out.2 hlt (cap := cp)
          have c1 := (hbW.cell (p := ⟨g, o + j, none⟩) hgb).trans c0
          obtain ⟨pt, px, rfl⟩ := hpn.iface
          have hdrop : sizes (l.drop j) = size l[j] + sizes (l.drop (j + 1)) := by rw [List.drop_eq_getElem_cons hlt, sizes]
          have hC := HI.out l[j] (List.getElem_mem hlt) _ odd (seens stp 5 (l.take j) 0 odd s1) (sizes (l.drop (j + 1)) + m) wr hpn hbW (by rw [← Nat.add_assoc, ← hdrop]; exact HJ.out.1)
          have htk := seens_take stp 5 odd hlt s1
          rw [show flip 5 j = false from by simp [flip], Bool.bne_false] at htk
          rw [← htk] at hC
          have HC := Lib.hid hC
          have hj3 : j ≤ 300 := by omega
          clear hbW hC htk hdrop c0 hpn hgb
          go_wp2_with fail
          refine HC.out.mono ?_
          rintro e x ⟨rfl, h1, h2⟩
          have H2 := Lib.hid (And.intro h1 (HJ.out.2.trans h2))
          clear h1 h2 HC HJ
          go_wp2_with fail
          go_roundw
          case rel => exact ⟨j + 1, by omega, by go_num, H2⟩
          case measure => simp [intOf]; omega
        · have hj' : j = l.length := by omega
          subst hj'
          have hJ := HJ.out
          rw [List.drop_length, List.take_length, sizes, Nat.zero_add] at hJ
          have HJ2 := Lib.hid hJ
          clear HJ hJ HP HI
          go_wp2_with fail
          go_end0
          have hb : Below wr.heap.size wr (wr.alloc (.cells #[.nilIface, .nilIface] 213)) := (Below.refl _ _).alloc (Nat.le_refl _) _
          exact ⟨rfl, HS.out.keep _ _ _ _ HJ2.out.1 hb, HJ2.out.2.then_below hb (HS.out.same _ _ _ _ HJ2.out.1 hb)⟩
    · have hlen := hk'.len
      obtain ⟨m0, m1, rfl⟩ : ∃ m0 m1, l = [m0, m1] := by
        match l, hlen with
        | [m0, m1], _ => exact ⟨m0, m1, rfl⟩
      rw [IsExprs] at hk'
      obtain ⟨v0, vr, e0, hn0, hk'⟩ := hk'
      rw [IsExprs] at hk'
      obtain ⟨v1, vr', rfl, hn1, hk'⟩ := hk'
      rw [IsExprs] at hk'
      subst hk'
      obtain ⟨rfl, rfl⟩ : x1 = v0 ∧ x2 = v1 := by simpa using e0
      obtain ⟨t0, z0, rfl⟩ := hn0.iface
      obtain ⟨t1, z1, rfl⟩ := hn1.iface
      have hfin : seens stp 6 [m0, m1] 0 odd s1 = seen stp m1 (!odd) (seen stp m0 odd s1) := by
        rw [seens, seens, seens, show flip 6 0 = false from rfl, show flip 6 (0 + 1) = true from rfl, Bool.bne_false, Bool.bne_true]
      have hsum : sizes [m0, m1] + m = size m0 + (size m1 + m) := by rw [sizes, sizes, sizes]; omega
      have HP := Lib.hid (And.intro hn0 hn1)
      have HF := Lib.hid (And.intro hfin hsum)
      clear hn0 hn1 e0 hlen hf hfin hsum hsz
      have f1 := asUnion_Except
      have f2 := asMeet_Except
      have f3 := asExcept_hit
      go_enter Tryz.func142, Tryz.ntmps142
      go_wp2_with fail
      refine HC.out.mono ?_
      rintro e y ⟨rfl, h1, h2⟩
      have hb : Below y.heap.size y (((y.alloc (.cells #[.slice none 0 0] 210)).alloc (.cells #[.slice none 0 0] 211)).alloc (.cells #[.iface t0 z0, .iface t1 z1] 213)) := (((Below.refl _ _).alloc (Nat.le_refl _) _).alloc (by simp) _).alloc (by simp; omega) _
      have hbx : (((y.alloc (.cells #[.slice none 0 0] 210)).alloc (.cells #[.slice none 0 0] 211)).alloc (.cells #[.iface t0 z0, .iface t1 z1] 213)).heap[y.heap.size + 2]? = some (.cells #[.iface t0 z0, .iface t1 z1] 213 (0, 0)) := by
        have := heap_alloc_new ((y.alloc (.cells #[.slice none 0 0] 210)).alloc (.cells #[.slice none 0 0] 211)) (.cells #[.iface t0 z0, .iface t1 z1] 213)
        simpa using this
      have hst1 := HS.out.keep _ _ _ _ h1 hb
      have hst1' := hst1
      rw [HF.out.2] at hst1'
      have hW1 : Below W.heap.size W y := HW.out.trans (HS.out.below hT.out HW.out.size h2)
      have hC1 := HI.out m0 (by simp) _ odd s1 (size m1 + m) _ HP.out.1 (hW1.trans (hb.mono hW1.size)) hst1'
      have hnf := fun h => by have := (HS.out.low _ _ _ _ h1 (HS.out.same _ _ _ _ h1 hb (y.heap.size + 2) h)).2; omega
      have HC1 := Lib.hid hC1
      have HY := Lib.hid (And.intro hbx (And.intro hnf (And.intro (h2.then_below hb (HS.out.same _ _ _ _ h1 hb)) (And.intro hst1 (hW1.trans (hb.mono hW1.size))))))
      clear h1 h2 HC hb hbx hst1 hst1' hW1 hC1 hnf
      go_wp2_with fail
      refine HC1.out.mono ?_
      rintro e z ⟨rfl, h1, h2⟩
      have hbz := (h2.turns.block (y.heap.size + 2) (by simp) fun h => by have := HY.out.2.1 h; omega).trans HY.out.1
      have c0 : z.cell? ⟨y.heap.size + 2, 0, none⟩ = some (.iface t0 z0) := by rw [Lib.cell_of_heap hbz]; rfl
      have c1 : z.cell? ⟨y.heap.size + 2, 1, none⟩ = some (.iface t1 z1) := by rw [Lib.cell_of_heap hbz]; rfl
      have hW2 := HY.out.2.2.2.2.trans (HS.out.below HY.out.2.2.2.1 HY.out.2.2.2.2.size h2)
      have hC2 := HI.out m1 (by simp) _ (!odd) (seen stp m0 odd s1) m z HP.out.2 hW2 h1
      have HC2 := Lib.hid hC2
      have HZ := Lib.hid (HY.out.2.2.1.trans h2)
      clear h1 h2 HC1 hbz hW2 hC2 HY
      go_wp2_with fail
      refine HC2.out.mono ?_
      rintro e z' ⟨rfl, h1, h2⟩
      have H2 := Lib.hid (And.intro h1 (HZ.out.trans h2))
      clear h1 h2 HC2 HZ
      go_wp2_with fail
      go_end0
      rw [HF.out.1]
      exact ⟨rfl, H2.out⟩
end Tr
end Go.Proofs.YtopncohhagebbaaGreatDoor

namespace Go.Proofs.YtopncohhagebbaaGreatDoor
open Go.RowKit
namespace Tr
open Knot (Turns)

abbrev refV (r : Rf) : Value := .agg #[.string r.via, .string r.rel, .bool r.odd]
def refOf : Nd → Rf
  | .mk k a b _ => if k = 2 then ⟨none0, a, false⟩ else if k = 3 then ⟨a, b, false⟩ else ⟨none0, none0, false⟩
def isRef : Nd → Bool
  | .mk k _ _ _ => k == 2 || k == 3
def isThis : Nd → Bool
  | .mk k _ _ _ => k == 1

set_option maxHeartbeats 2000000 in
set_option maxRecDepth 100000 in
theorem plain_any (n : Nd) (u : Value) (w : World) (hn : IsExpr 0 w n u) :
    Calls Tryz.prog 144 #[u] w fun e x => e = .returned (.bool (isThis n)) ∧ Below w.heap.size w x := by
  cases n with
  | mk k a b l =>
  rw [IsExpr] at hn
  rcases hn with ⟨rfl, rfl⟩ | ⟨rfl, rfl⟩ | ⟨rfl, rfl⟩ | ⟨rfl, g, o, cp, vs, rfl, -⟩ | ⟨rfl, g, o, cp, vs, rfl, -⟩ | ⟨rfl, x1, x2, rfl, -⟩
  · have f := asThis_hit
    go_enter Tryz.func144, Tryz.ntmps144
    go_wp2_with fail
    go_ret
    exact ⟨rfl, fresh_one _ _⟩
  · have f := asThis_Computed
    go_enter Tryz.func144, Tryz.ntmps144
    go_wp2_with fail
    go_ret
    exact ⟨rfl, fresh_one _ _⟩
  · have f := asThis_Arrow
    go_enter Tryz.func144, Tryz.ntmps144
    go_wp2_with fail
    go_ret
    exact ⟨rfl, fresh_one _ _⟩
  · have f := asThis_Union
    go_enter Tryz.func144, Tryz.ntmps144
    go_wp2_with fail
    go_ret
    exact ⟨rfl, fresh_one _ _⟩
  · have f := asThis_Meet
    go_enter Tryz.func144, Tryz.ntmps144
    go_wp2_with fail
    go_ret
    exact ⟨rfl, fresh_one _ _⟩
  · have f := asThis_Except
    go_enter Tryz.func144, Tryz.ntmps144
    go_wp2_with fail
    go_ret
    exact ⟨rfl, fresh_one _ _⟩

theorem cells3 {R : Nat} {v0 v1 v2 : Value} {T : TypeId} {x : World} (h : x.heap[R]? = some (.cells #[v0, v1, v2] T (0, 0))) : x.cell? ⟨R, 0, none⟩ = some v0 ∧ x.cell? ⟨R, 1, none⟩ = some v1 ∧ x.cell? ⟨R, 2, none⟩ = some v2 ∧ x.frozen? ⟨R, 0, none⟩ = false ∧ x.frozen? ⟨R, 1, none⟩ = false ∧ x.frozen? ⟨R, 2, none⟩ = false :=
  ⟨by rw [Lib.cell_of_heap h]; rfl, by rw [Lib.cell_of_heap h]; rfl, by rw [Lib.cell_of_heap h]; rfl, Lib.frozen_of_heap h 0, Lib.frozen_of_heap h 1, Lib.frozen_of_heap h 2⟩
theorem cells2 {R : Nat} {v0 v1 : Value} {T : TypeId} {x : World} (h : x.heap[R]? = some (.cells #[v0, v1] T (0, 0))) : x.cell? ⟨R, 0, none⟩ = some v0 ∧ x.cell? ⟨R, 1, none⟩ = some v1 ∧ x.frozen? ⟨R, 0, none⟩ = false ∧ x.frozen? ⟨R, 1, none⟩ = false :=
  ⟨by rw [Lib.cell_of_heap h]; rfl, by rw [Lib.cell_of_heap h]; rfl, Lib.frozen_of_heap h 0, Lib.frozen_of_heap h 1⟩
theorem good_words {k : Int} {a b : ByteArray} {l : List Nd} (h : good (.mk k a b l) = true) : (k = 2 → a.size ≤ 16) ∧ (k = 3 → a.size ≤ 16 ∧ b.size ≤ 16) := by
  rw [good, Bool.and_eq_true] at h
  have hf := h.2
  rw [fits] at hf
  refine ⟨?_, ?_⟩
  · rintro rfl
    have hw : word a = true := by revert hf; simp; exact fun h _ _ => h
    exact word_len hw
  · rintro rfl
    have hw : word a = true ∧ word b = true := by revert hf; simp; exact fun h h' _ => ⟨h, h'⟩
    exact ⟨word_len hw.1, word_len hw.2⟩

set_option maxHeartbeats 4000000 in
set_option maxRecDepth 100000 in
theorem reference_any (n : Nd) (u : Value) (w : World) (hg : good n = true) (hn : IsExpr 0 w n u) :
    Calls Tryz.prog 146 #[u] w fun e x => e = .returned (.tuple #[refV (refOf n), .bool (isRef n)]) ∧ Below w.heap.size w x := by
  cases n with
  | mk k a b l =>
  obtain ⟨hw2, hw3⟩ := good_words hg
  rw [IsExpr] at hn
  rcases hn with ⟨rfl, rfl⟩ | ⟨rfl, rfl⟩ | ⟨rfl, rfl⟩ | ⟨rfl, g, o, cp, vs, rfl, -⟩ | ⟨rfl, g, o, cp, vs, rfl, -⟩ | ⟨rfl, x1, x2, rfl, -⟩
  · have f := asComputed_This
    have f2 := asArrow_This
    clear hw2 hw3 hg
    go_enter Tryz.func146, Tryz.ntmps146
    go_wp2_with fail
    refine bodyPost_ret (v := .tuple #[refV ⟨none0, none0, false⟩, .bool false]) (by simp [results, Tryz.results146, go_sem, none0]) rfl ⟨rfl, ?_⟩
    exact ((fresh_one _ _).alloc (by simp) _).alloc (by simp; omega) _
  · have f := asComputed_hit
    have hs := hw2 rfl
    have HC := Lib.hid (fun x => Who.clone_any a x (by omega))
    have hb : ((w.alloc (.cells #[.string ⟨#[]⟩, .string ⟨#[]⟩, .bool false] 173)).alloc (.cells #[.string a] 204)).heap[w.heap.size]? = some (.cells #[.string ⟨#[]⟩, .string ⟨#[]⟩, .bool false] 173 (0, 0)) := ((fresh_one (w.alloc _) _).block w.heap.size (by simp)).trans (heap_alloc_new w _)
    have HB := Lib.hid hb
    clear hw2 hw3 hg hs hb
    go_enter Tryz.func146, Tryz.ntmps146
    go_wp2_with fail
    refine (HC.out _).mono ?_
    rintro e x ⟨rfl, hx⟩
    have hbx := (hx.block w.heap.size (by simp; omega)).trans HB.out
    obtain ⟨c0, c1, c2, f0, f1, f2⟩ := cells3 hbx
    have HX := Lib.hid (((fresh_one w _).alloc (by simp) _).trans (hx.mono (by simp; omega)))
    clear hx hbx HC HB
    go_wp2_with fail
    refine bodyPost_ret (v := .tuple #[refV ⟨none0, a, false⟩, .bool true]) (by simp [results, Tryz.results146, go_sem, none0, c0, c1, c2]) rfl ⟨rfl, ?_⟩
    exact ((HX.out.setCell (Nat.le_refl _) _).setCell (Nat.le_refl _) _).setCell (Nat.le_refl _) _
  · have f := asComputed_Arrow
    have f2 := asArrow_hit
    obtain ⟨hsa, hsb⟩ := hw3 rfl
    have HC := Lib.hid (And.intro (fun x => Who.clone_any a x (by omega)) (fun x => Who.clone_any b x (by omega)))
    clear hw2 hw3 hg hsa hsb
    go_enter Tryz.func146, Tryz.ntmps146
    go_wp2_with fail
    obtain ⟨w0, hw0⟩ : ∃ w0, w0 = (((w.alloc (.cells #[.string ⟨#[]⟩, .string ⟨#[]⟩, .bool false] 173)).alloc (.cells #[.string ⟨#[]⟩] 204)).alloc (.cells #[.string a, .string b] 206)).drew := ⟨_, rfl⟩
    have hW0 : Below w.heap.size w w0 := by rw [hw0]; exact (((fresh_one w _).alloc (by simp) _).alloc (by simp; omega) _).drew
    have hsz0 : w.heap.size + 2 < w0.heap.size := by rw [hw0]; simp [World.drew]
    have hb0 : w0.heap[w.heap.size]? = some (.cells #[.string ⟨#[]⟩, .string ⟨#[]⟩, .bool false] 173 (0, 0)) := by
      rw [hw0]
      exact ((((Below.refl (w.heap.size + 1) (w.alloc _)).alloc (by simp) _).alloc (by simp) _).drew.block w.heap.size (by omega)).trans (heap_alloc_new w _)
    have hb2 : w0.heap[w.heap.size + 2]? = some (.cells #[.string a, .string b] 206 (0, 0)) := by
      rw [hw0]
      have := heap_alloc_new ((w.alloc (.cells #[.string ⟨#[]⟩, .string ⟨#[]⟩, .bool false] 173)).alloc (.cells #[.string ⟨#[]⟩] 204)) (.cells #[.string a, .string b] 206)
      simpa [World.drew] using this
    have HX := Lib.hid (show ∀ x, Turns (fun k => k = w.heap.size) w0 x → x.cell? ⟨w.heap.size + 2, 0, none⟩ = some (.string a) ∧ x.cell? ⟨w.heap.size + 2, 1, none⟩ = some (.string b) from fun x hx => by
      have h := cells2 ((hx.block (w.heap.size + 2) hsz0 (by omega)).trans hb2)
      exact ⟨h.1, h.2.1⟩)
    refine Order.region_begin (S := Turns (fun k => k = w.heap.size) (((w.alloc (.cells #[.string ⟨#[]⟩, .string ⟨#[]⟩, .bool false] 173)).alloc (.cells #[.string ⟨#[]⟩] 204)).alloc (.cells #[.string a, .string b] 206)).drew) (by kernel_rfl) ?_
    rw [← hw0]
    have H0 := Lib.hid (And.intro hW0 (And.intro hsz0 hb0))
    clear hw0 hW0 hsz0 hb0 hb2
    refine Order.reads_any (idx := [0, 1, 3, 4]) (by kernel_rfl) (Turns.refl _ _) (fun _ _ _ _ _ h => Order.noPanic_put h) 5 _ _ (by decide +kernel) ?_
    simp only [Order.pick, List.getElem?_toArray, List.getElem?_cons_zero, List.getElem?_cons_succ]
    repeat (first
      | (refine Order.reads_off (by rfl) ?_
         simp only [Act.put, List.setIfInBounds_toArray, List.set_cons_zero, List.set_cons_succ])
      | (apply Order.reads_on
         · rfl
         · intro x hx
           first
             | (go_simp; rfl)
             | (obtain ⟨i0, i1⟩ := HX.out x hx
                go_simp; rfl)
         simp only [Act.put, List.setIfInBounds_toArray, List.set_cons_zero, List.set_cons_succ]))
    refine Order.reads_end ?_
    apply Order.acts_any (R := Turns (fun k => k = w.heap.size)) (fun h k => h.trans k fun _ _ h => h) (i := 2)
    · rfl
    · decide +kernel
    · rfl
    unfold Oper.wp
    go_simp
    refine Calls.mono (HC.out.1 _) ?_
    rintro e w1 ⟨rfl, b1⟩
    refine ⟨Turns.of_below b1, ?_⟩
    apply Order.acts_any (R := Turns (fun k => k = w.heap.size)) (fun h k => h.trans k fun _ _ h => h) (i := 5)
    · rfl
    · decide +kernel
    · rfl
    unfold Oper.wp
    go_simp
    refine Calls.mono (HC.out.2 _) ?_
    rintro e w2 ⟨rfl, b2⟩
    refine ⟨Turns.of_below b2, ?_⟩
    have b3 := b1.trans (b2.mono b1.size)
    have hbx := (b3.block w.heap.size (by have := H0.out.2.1; omega)).trans H0.out.2.2
    obtain ⟨c0, c1, c2, g0, g1, g2⟩ := cells3 hbx
    have HY := Lib.hid (H0.out.1.trans (b3.mono H0.out.1.size))
    clear b1 b2 b3 hbx
    refine Order.reads_any (idx := [6]) (by kernel_rfl) (Turns.refl _ _) (fun _ _ _ _ _ h => Order.noPanic_put h) 2 _ _ (by decide +kernel) ?_
    simp only [Order.pick, List.getElem?_toArray, List.getElem?_cons_zero, List.getElem?_cons_succ]
    repeat (first
      | (refine Order.reads_off (by rfl) ?_
         simp only [Act.put, List.setIfInBounds_toArray, List.set_cons_zero, List.set_cons_succ])
      | (apply Order.reads_on
         · rfl
         · intro x hx
           first
             | (go_simp; rfl)
             | (fail
                go_simp; rfl)
         simp only [Act.put, List.setIfInBounds_toArray, List.set_cons_zero, List.set_cons_succ]))
    refine Order.reads_end ?_
    apply Order.acts_any (R := Turns (fun k => k = w.heap.size)) (fun h k => h.trans k fun _ _ h => h) (i := 7)
    · rfl
    · decide +kernel
    · rfl
    unfold Oper.wp
    go_simp
    refine ⟨((Turns.setCell (F := fun k => k = w.heap.size) (Turns.refl _ _) rfl _).setCell rfl _).setCell rfl _, ?_⟩
    refine Order.reads_any (idx := [8]) (by kernel_rfl) (Turns.refl _ _) (fun _ _ _ _ _ h => Order.noPanic_put h) 0 _ _ (by decide +kernel) ?_
    simp only [Order.pick, List.getElem?_toArray, List.getElem?_cons_zero, List.getElem?_cons_succ]
    repeat (first
      | (refine Order.reads_off (by rfl) ?_
         simp only [Act.put, List.setIfInBounds_toArray, List.set_cons_zero, List.set_cons_succ])
      | (apply Order.reads_on
         · rfl
         · intro x hx
           first
             | (go_simp; rfl)
             | (fail
                go_simp; rfl)
         simp only [Act.put, List.setIfInBounds_toArray, List.set_cons_zero, List.set_cons_succ]))
    refine Order.reads_end ?_
    refine wpAnyH_done (by decide +kernel) ?_ _
    refine NoPanic.normal ?_
    go_wp2_with fail
    refine bodyPost_ret (v := .tuple #[refV ⟨a, b, false⟩, .bool true]) (by simp [results, Tryz.results146, go_sem, c0, c1, c2]) rfl ⟨rfl, ?_⟩
    exact ((HY.out.setCell (Nat.le_refl _) _).setCell (Nat.le_refl _) _).setCell (Nat.le_refl _) _
  · have f := asComputed_Union
    have f2 := asArrow_Union
    clear hw2 hw3 hg
    go_enter Tryz.func146, Tryz.ntmps146
    go_wp2_with fail
    refine bodyPost_ret (v := .tuple #[refV ⟨none0, none0, false⟩, .bool false]) (by simp [results, Tryz.results146, go_sem, none0]) rfl ⟨rfl, ?_⟩
    exact ((fresh_one _ _).alloc (by simp) _).alloc (by simp; omega) _
  · have f := asComputed_Meet
    have f2 := asArrow_Meet
    clear hw2 hw3 hg
    go_enter Tryz.func146, Tryz.ntmps146
    go_wp2_with fail
    refine bodyPost_ret (v := .tuple #[refV ⟨none0, none0, false⟩, .bool false]) (by simp [results, Tryz.results146, go_sem, none0]) rfl ⟨rfl, ?_⟩
    exact ((fresh_one _ _).alloc (by simp) _).alloc (by simp; omega) _
  · have f := asComputed_Except
    have f2 := asArrow_Except
    clear hw2 hw3 hg
    go_enter Tryz.func146, Tryz.ntmps146
    go_wp2_with fail
    refine bodyPost_ret (v := .tuple #[refV ⟨none0, none0, false⟩, .bool false]) (by simp [results, Tryz.results146, go_sem, none0]) rfl ⟨rfl, ?_⟩
    exact ((fresh_one _ _).alloc (by simp) _).alloc (by simp; omega) _
end Tr
end Go.Proofs.YtopncohhagebbaaGreatDoor

namespace Go.Proofs.YtopncohhagebbaaGreatDoor
open Go.RowKit
namespace Tr
open Knot (Turns NewRow)

set_option maxRecDepth 100000 in
theorem refs_elem : ∃ i z b, IsElem Tryz.prog 171 173 i z 3 b ∧ b ≤ 100 := by
  refine ⟨_, _, _, ⟨by kernel_rfl, rfl, rfl, by kernel_rfl, rfl, by kernel_rfl, by omega⟩, ?_⟩
  exact of_decide_eq_true (by kernel_rfl)
def cellsR (l : List Rf) : List Value := l.flatMap fun r => [.string r.via, .string r.rel, .bool r.odd]
theorem cellsR_append (l m : List Rf) : cellsR (l ++ m) = cellsR l ++ cellsR m := by simp [cellsR]
def ListAt (B K : Nat) (s : List Rf) (x : World) : Prop := ∃ v, x.heap[K]? = some (.cells #[v] 171 (0, 0)) ∧ B ≤ K ∧ x.ownsRow B 173 3 v s.length (cellsR s)
def footR (K : Nat) (x : World) (k : Nat) : Prop := k = K ∨ ∃ v, x.heap[K]? = some (.cells #[v] 171 (0, 0)) ∧ v.ownBlock = some k
theorem ListAt.low {B K : Nat} {s : List Rf} {x : World} (h : ListAt B K s x) : ∀ k, footR K x k → B ≤ k ∧ k < x.heap.size := by
  obtain ⟨v, hK, hB, ho⟩ := h
  have hlt := (Array.getElem?_eq_some_iff.1 hK).1
  rintro k (rfl | ⟨v', hv', e⟩)
  · exact ⟨hB, hlt⟩
  · rw [hK] at hv'
    obtain rfl : v = v' := by simpa using hv'
    exact ⟨(ho.lt k e).1, (ho.lt k e).2⟩
theorem ListAt.ne {B K : Nat} {s : List Rf} {v : Value} {x : World} (hK : x.heap[K]? = some (.cells #[v] 171 (0, 0))) (ho : x.ownsRow B 173 3 v s.length (cellsR s)) : v.ownBlock ≠ some K := fun e => by
  rcases ho.2 with ⟨rfl, -⟩ | ⟨g, cap, cur, rfl, -, hg, -⟩
  · simp [Value.ownBlock] at e
  · have e1 : g = K := by simpa [Value.ownBlock] using e
    subst e1
    rw [hg] at hK
    simp at hK
theorem ListAt.keep {B K : Nat} {s : List Rf} {x y : World} (h : ListAt B K s x) (hb : Below x.heap.size x y) : ListAt B K s y := by
  obtain ⟨v, hK, hB, ho⟩ := h
  exact ⟨v, (hb.block K (Array.getElem?_eq_some_iff.1 hK).1).trans hK, hB, own_below ho hb⟩
theorem footR.same {B K : Nat} {s : List Rf} {x y : World} (h : ListAt B K s x) (hb : Below x.heap.size x y) : ∀ k, footR K y k → footR K x k := by
  obtain ⟨v, hK, hB, ho⟩ := h
  rintro k (rfl | ⟨v', hv', e⟩)
  · exact .inl rfl
  · exact .inr ⟨v', (hb.block K (Array.getElem?_eq_some_iff.1 hK).1).symm.trans hv', e⟩

def stpR (s : List Rf) (n : Nd) (odd : Bool) : List Rf := if isRef n then s ++ [⟨(refOf n).via, (refOf n).rel, odd⟩] else s

theorem new_alloc (w : World) (o : Obj) : Below w.heap.size w (w.alloc o) := (Below.refl _ _).alloc (Nat.le_refl _) o

set_option maxHeartbeats 4000000 in
set_option maxRecDepth 100000 in
theorem refs_see (B K : Nat) (s : List Rf) (n : Nd) (u : Value) (odd : Bool) (w : World) (hg : good n = true) (hn : IsExpr 0 w n u) (hs : s.length ≤ 1000) (hB : B ≤ w.heap.size) (hL : ListAt B K s w) :
    Calls Tryz.prog 145 #[u, .bool odd, .pointer (some ⟨K, 0, none⟩)] w fun e x => e = .returned (.tuple #[]) ∧ ListAt B K (stpR s n odd) x ∧ After (footR K w) (footR K x) w x := by
  have HC := Lib.hid (reference_any n u w hg hn)
  have HL := Lib.hid hL
  clear hn hg hL
  cases hr : isRef n with
  | false =>
    rw [hr] at HC
    have HS := Lib.hid (show stpR s n odd = s by rw [stpR, hr]; simp)
    clear hr
    go_enter Tryz.func145, Tryz.ntmps145
    go_wp2_with fail
    refine HC.out.mono ?_
    rintro e x ⟨rfl, hx⟩
    have H1 := Lib.hid hx
    clear hx
    go_wp2_with fail
    go_end0
    have hb := H1.out.alloc H1.out.size (.cells #[.string (refOf n).via, .string (refOf n).rel, .bool (refOf n).odd] 173)
    rw [HS.out]
    exact ⟨rfl, HL.out.keep hb, ⟨Turns.of_below hb, fun k hk => .inl (footR.same HL.out hb k hk)⟩⟩
  | true =>
    rw [hr] at HC
    have HS := Lib.hid (show stpR s n odd = s ++ [⟨(refOf n).via, (refOf n).rel, odd⟩] by rw [stpR, hr]; simp)
    clear hr
    generalize refOf n = r at *
    go_enter Tryz.func145, Tryz.ntmps145
    go_wp2_with fail
    refine HC.out.mono ?_
    rintro e x ⟨rfl, hx⟩
    obtain ⟨v, hK, hBK, ho⟩ := HL.out
    have hKl := (Array.getElem?_eq_some_iff.1 hK).1
    have hxs := hx.size
    have hK1 : x.heap[K]? = some (.cells #[v] 171 (0, 0)) := (hx.block K hKl).trans hK
    have ho1 := own_below ho hx
    obtain ⟨ro, rc, rfl⟩ := own_slice ho
    have al1 := new_alloc x (.cells #[.string r.via, .string r.rel, .bool odd] 173)
    have al2 : Below x.heap.size x ((x.alloc (.cells #[.string r.via, .string r.rel, .bool odd] 173)).alloc (.cells [.string r.via, .string r.rel, .bool odd].toArray 173)) := al1.alloc (by simp) _
    have ck : (x.alloc (.cells #[.string r.via, .string r.rel, .bool odd] 173)).cell? ⟨K, 0, none⟩ = some (.slice ro s.length rc) := by
      rw [al1.cell (p := ⟨K, 0, none⟩) (by show K < _; omega), Lib.cell_of_heap hK1]; rfl
    obtain ⟨ti, tz, tb', T, hT⟩ := refs_elem
    have H1 := Lib.hid (And.intro (hx.trans (al2.mono hxs)) (And.intro hK (And.intro ((al2.block K (by omega)).trans hK1) (And.intro (own_below ho1 al2) (And.intro hBK (And.intro hKl hxs))))))
    have HT := Lib.hid (And.intro T hT)
    clear hx hK hK1 ho ho1 hBK hKl hxs al1 al2 T hT
    go_wp2_with (at_builtin; refine walk_rows HT.out.1 rfl _ _ rfl rfl rfl H1.out.2.2.2.1 (by have := H1.out.2.2.2.2.2.2; simp; omega) (m := 1) rfl (new_cells _ _ [.string r.via, .string r.rel, .bool odd] (by simp)) (by intro u' hu'; simp at hu'; rcases hu' with rfl | rfl | rfl <;> rfl) (by omega) (Nat.le_trans (Nat.mul_le_mul_left _ HT.out.2) (by omega)) ?_)
    intro v2 z o2 g2 n2
    obtain ⟨ro2, rc2, rfl⟩ := own_slice o2
    have hne : (Value.slice ro s.length rc).ownBlock ≠ some K := by
      obtain ⟨v, hv, -, hv2⟩ := HL.out
      rw [H1.out.2.1] at hv
      obtain rfl : Value.slice ro s.length rc = v := by simpa using hv
      exact ListAt.ne H1.out.2.1 hv2
    have hKz : z.heap[K]? = some (.cells #[.slice ro s.length rc] 171 (0, 0)) := (g2.block K (by have := H1.out.2.2.2.2.2; simp; omega) fun e => hne e.symm).trans H1.out.2.2.1
    have cz : z.cell? ⟨K, 0, none⟩ = some (.slice ro s.length rc) := by rw [Lib.cell_of_heap hKz]; rfl
    have fz : z.frozen? ⟨K, 0, none⟩ = false := Lib.frozen_of_heap hKz 0
    have H2 := Lib.hid (And.intro o2 (And.intro g2 (And.intro n2 (And.intro hne hKz))))
    clear o2 g2 n2 hne hKz ck
    go_wp2_with fail
    go_end0
    obtain ⟨o2, g2, n2, hne, hKz⟩ := H2.out
    obtain ⟨hA, hK, hKA, -, hBK, hKl, -⟩ := H1.out
    have hAs := hA.size
    have hne2 : (Value.slice ro2 (s.length + 1) rc2).ownBlock ≠ some K := fun e => by
      rcases n2 K e with h | h
      · exact hne h
      · omega
    have hy := heap_setCell_same z K 0 _ _ (Value.slice ro2 (s.length + 1) rc2) hKz
    have hy2 : (z.setCell ⟨K, 0, none⟩ (Value.slice ro2 (s.length + 1) rc2)).heap[K]? = some (.cells #[.slice ro2 (s.length + 1) rc2] 171 (0, 0)) := hy
    have tK : Turns (fun k => k = K) z (z.setCell ⟨K, 0, none⟩ (Value.slice ro2 (s.length + 1) rc2)) := Turns.setCell (F := fun k => k = K) (Turns.refl _ _) rfl _
    refine ⟨rfl, ?_, ⟨?_, ?_⟩⟩
    · rw [HS.out]
      refine ⟨_, hy2, hBK, ?_⟩
      rw [List.length_append, cellsR_append]
      exact own_turn o2 tK fun k hk e => hne2 (by rw [← e]; exact hk)
    · have t1 : Turns (footR K w) w z := (Turns.of_below (F := footR K w) hA).trans (G := fun k => (Value.slice ro s.length rc).ownBlock = some k) (Turns.of_grown g2 fun k hk => hk) fun k _ hk => .inr ⟨_, hK, hk⟩
      exact t1.trans tK fun k _ e => .inl e
    · rintro k (rfl | ⟨v', hv', e⟩)
      · exact .inl (.inl rfl)
      · rw [hy2] at hv'
        obtain rfl : Value.slice ro2 (s.length + 1) rc2 = v' := by simpa using hv'
        rcases n2 k e with h | h
        · exact .inl (.inr ⟨_, hK, h⟩)
        · exact .inr (by omega)

theorem refs_sees (W : World) (K : Nat) (hK : W.heap.size ≤ K) : Sees W 145 #[.pointer (some ⟨K, 0, none⟩)] (σ := List Rf) (fun m s x => ListAt W.heap.size K s x ∧ s.length + m ≤ 1000) (footR K) stpR where
  enter := fun args x => by kernel_rfl
  low := fun m s x k h hk => h.1.low k hk
  keep := fun m s x y h hb => ⟨h.1.keep hb, h.2⟩
  same := fun m s x y h hb k hk => footR.same h.1 hb k hk
  see := fun m s x n u odd h hg hn => by
    have hlt := h.1.low K (.inl rfl)
    refine (refs_see W.heap.size K s n u odd x hg hn (by have := h.2; omega) (by omega) h.1).mono fun e y ⟨he, h1, h2⟩ => ⟨he, ⟨h1, ?_⟩, h2⟩
    have := h.2
    rw [stpR]
    split
    · rw [List.length_append, List.length_singleton]; omega
    · omega

mutual
theorem seen_refs : ∀ (n : Nd) (odd : Bool) (s : List Rf), good n = true → seen stpR n odd s = s ++ refs n odd
  | .mk k a b l, odd, s, hg => by
    rw [good, Bool.and_eq_true] at hg
    obtain ⟨hgs, hf⟩ := hg
    rw [seen, seens_refs k l 0 odd _ hgs, stpR, refs]
    by_cases h2 : k = 2
    · subst h2
      have hl : l = [] := by
        revert hf
        rw [fits]
        simp
      subst hl
      simp [isRef, refOf, refss]
    · by_cases h3 : k = 3
      · subst h3
        have hl : l = [] := by
          revert hf
          rw [fits]
          simp
        subst hl
        simp [isRef, refOf, refss]
      · simp [isRef, h2, h3]
theorem seens_refs (k : Int) : ∀ (l : List Nd) (i : Nat) (odd : Bool) (s : List Rf), goods l = true → seens stpR k l i odd s = s ++ refss k l i odd
  | [], i, odd, s, _ => by simp [seens, refss]
  | n :: r, i, odd, s, hg => by
    rw [goods, Bool.and_eq_true] at hg
    rw [seens, refss, seen_refs n _ s hg.1, seens_refs k r (i + 1) odd _ hg.2, List.append_assoc]
end

def RefsAt (B : Nat) (x : World) (v : Value) (s : List Rf) : Prop := x.ownsRow B 173 3 v s.length (cellsR s)
set_option maxHeartbeats 1000000 in
theorem refs_any (n : Nd) (u : Value) (w : World) (hz : size n ≤ 300) (hg : good n = true) (hn : IsExpr 0 w n u) :
    Calls Tryz.prog 108 #[u] w fun e x => ∃ v, e = .returned v ∧ RefsAt w.heap.size x v (refs n false) ∧ Below w.heap.size w x := by
  have hb := new_alloc w (.cells #[.slice none 0 0] 171)
  have hL : ListAt w.heap.size w.heap.size [] (w.alloc (.cells #[.slice none 0 0] 171)) := ⟨_, heap_alloc_new w _, Nat.le_refl _, World.ownsRow_nil _ _ _ _⟩
  have hC := each_any (refs_sees w w.heap.size (Nat.le_refl _)) (size n) n u false [] 0 (w.alloc (.cells #[.slice none 0 0] 171)) (Nat.le_refl _) hz hg hn hb ⟨hL, by simp; omega⟩
  rw [seen_refs n false [] hg, List.nil_append] at hC
  have HC := Lib.hid hC
  have HL := Lib.hid (And.intro hL hb)
  clear hn hb hL hC
  go_enter Tryz.func108, Tryz.ntmps108
  go_wp2_with fail
  refine HC.out.mono ?_
  rintro e x ⟨rfl, ⟨⟨v, hK, -, ho⟩, -⟩, ha⟩
  obtain ⟨ro, rc, rfl⟩ := own_slice ho
  have c0 : x.cell? ⟨w.heap.size, 0, none⟩ = some (.slice ro (refs n false).length rc) := by rw [Lib.cell_of_heap hK]; rfl
  have HX := Lib.hid (And.intro ho (HL.out.2.trans (ha.turns.below HL.out.2.size fun k hk => (HL.out.1.low k hk).1)))
  clear hK ho ha
  go_wp2_with fail
  go_ret
  exact ⟨_, rfl, HX.out.1, HX.out.2⟩

def BoolAt (K : Nat) (b : Bool) (x : World) : Prop := x.heap[K]? = some (.cells #[.bool b] 4 (0, 0))
theorem BoolAt.cell {K : Nat} {b : Bool} {x : World} (h : BoolAt K b x) : x.cell? ⟨K, 0, none⟩ = some (.bool b) ∧ x.frozen? ⟨K, 0, none⟩ = false := ⟨by rw [Lib.cell_of_heap h]; rfl, Lib.frozen_of_heap h 0⟩
theorem BoolAt.lt {K : Nat} {b : Bool} {x : World} (h : BoolAt K b x) : K < x.heap.size := (Array.getElem?_eq_some_iff.1 h).1
theorem BoolAt.on {K : Nat} {b : Bool} {x y : World} (h : BoolAt K b x) (hb : Below x.heap.size x y) : BoolAt K b y := (hb.block K h.lt).trans h
theorem BoolAt.put {K : Nat} {b : Bool} {x : World} (h : BoolAt K b x) (c : Bool) : BoolAt K c (x.setCell ⟨K, 0, none⟩ (.bool c)) := by
  rw [BoolAt, heap_setCell_same x K 0 #[.bool b] _ _ h]
  rfl
def stpD (want : Bool) (s : Bool) (n : Nd) (odd : Bool) : Bool := s || ((odd == want) && isThis n)

set_option maxHeartbeats 2000000 in
set_option maxRecDepth 100000 in
theorem direct_see (J K : Nat) (want s : Bool) (n : Nd) (u : Value) (odd : Bool) (w : World) (hn : IsExpr 0 w n u) (hJ : BoolAt J want w) (hK : BoolAt K s w) (hne : J ≠ K) :
    Calls Tryz.prog 143 #[u, .bool odd, .pointer (some ⟨J, 0, none⟩), .pointer (some ⟨K, 0, none⟩)] w fun e x => e = .returned (.tuple #[]) ∧ (BoolAt J want x ∧ BoolAt K (stpD want s n odd) x) ∧ Turns (fun k => k = K) w x := by
  have HC := Lib.hid (plain_any n u w hn)
  obtain ⟨j0, -⟩ := hJ.cell
  have HB := Lib.hid (And.intro hJ (And.intro hK hne))
  have tK : ∀ x, Turns (fun k => k = K) x (x.setCell ⟨K, 0, none⟩ (.bool true)) := fun x => Turns.setCell (F := fun k => k = K) (Turns.refl _ _) rfl _
  have HT := Lib.hid tK
  clear hn hJ hK hne tK
  cases hw : odd == want with
  | false =>
    have HS := Lib.hid (show stpD want s n odd = s by rw [stpD, hw]; simp)
    clear HC
    go_enter Tryz.func143, Tryz.ntmps143
    go_wp2_with fail
    go_end0
    rw [HS.out]
    exact ⟨rfl, ⟨HB.out.1, HB.out.2.1⟩, Turns.refl _ _⟩
  | true =>
    cases ht : isThis n with
    | false =>
      have HS := Lib.hid (show stpD want s n odd = s by rw [stpD, ht]; simp)
      rw [ht] at HC
      clear ht
      go_enter Tryz.func143, Tryz.ntmps143
      go_wp2_with fail
      refine HC.out.mono ?_
      rintro e x ⟨rfl, hx⟩
      go_wp2_with fail
      go_end0
      rw [HS.out]
      exact ⟨rfl, ⟨HB.out.1.on hx, HB.out.2.1.on hx⟩, Turns.of_below hx⟩
    | true =>
      have HS := Lib.hid (show stpD want s n odd = true by rw [stpD, ht, hw]; simp)
      rw [ht] at HC
      clear ht
      go_enter Tryz.func143, Tryz.ntmps143
      go_wp2_with fail
      refine HC.out.mono ?_
      rintro e x ⟨rfl, hx⟩
      have hK2 := HB.out.2.1.on hx
      obtain ⟨k0, kf⟩ := hK2.cell
      have H2 := Lib.hid (And.intro hx hK2)
      clear hx hK2
      go_wp2_with fail
      go_end0
      rw [HS.out]
      refine ⟨rfl, ⟨((HT.out _).block J ?_ HB.out.2.2).trans (HB.out.1.on H2.out.1), H2.out.2.put true⟩, (Turns.of_below (F := fun k => k = K) H2.out.1).trans (HT.out _) fun _ _ h => h⟩
      have := HB.out.1.lt
      have := H2.out.1.size
      omega

theorem direct_sees (W : World) (J K : Nat) (want : Bool) (_hJ : W.heap.size ≤ J) (hK : W.heap.size ≤ K) (hne : J ≠ K) : Sees W 143 #[.pointer (some ⟨J, 0, none⟩), .pointer (some ⟨K, 0, none⟩)] (σ := Bool) (fun _ s x => BoolAt J want x ∧ BoolAt K s x) (fun _ k => k = K) (stpD want) where
  enter := fun args x => by kernel_rfl
  low := fun m s x k h hk => by subst hk; exact ⟨hK, h.2.lt⟩
  keep := fun m s x y h hb => ⟨h.1.on hb, h.2.on hb⟩
  same := fun _ _ _ _ _ _ _ h => h
  see := fun m s x n u odd h hg hn => (direct_see J K want s n u odd x hn h.1 h.2 hne).mono fun e y ⟨he, h1, h2⟩ => ⟨he, h1, ⟨h2, fun _ h => .inl h⟩⟩

mutual
theorem seen_direct (want : Bool) : ∀ (n : Nd) (odd : Bool) (s : Bool), seen (stpD want) n odd s = (s || direct n want odd)
  | .mk k a b l, odd, s => by
    rw [seen, seens_direct want k l 0 odd, direct, stpD, isThis, Bool.or_assoc, Bool.or_comm (directs k l 0 want odd), Bool.and_comm (k == 1)]
    rw [show (odd == want) = (want == odd) from Bool.beq_comm]
theorem seens_direct (want : Bool) (k : Int) : ∀ (l : List Nd) (i : Nat) (odd : Bool) (s : Bool), seens (stpD want) k l i odd s = (s || directs k l i want odd)
  | [], i, odd, s => by simp [seens, directs]
  | n :: r, i, odd, s => by
    rw [seens, directs, seen_direct want n _ s, seens_direct want k r (i + 1) odd, Bool.or_assoc]
end

set_option maxHeartbeats 1000000 in
theorem direct_any (n : Nd) (u : Value) (want : Bool) (w : World) (hz : size n ≤ 300) (hg : good n = true) (hn : IsExpr 0 w n u) :
    Calls Tryz.prog 107 #[u, .bool want] w fun e x => e = .returned (.bool (direct n want false)) ∧ Below w.heap.size w x := by
  have hb : Below w.heap.size w ((w.alloc (.cells #[.bool want] 4)).alloc (.cells #[.bool false] 4)) := (new_alloc w _).alloc (by simp) _
  have hJ : BoolAt w.heap.size want ((w.alloc (.cells #[.bool want] 4)).alloc (.cells #[.bool false] 4)) := BoolAt.on (x := w.alloc (.cells #[.bool want] 4)) (heap_alloc_new w _) (new_alloc _ _)
  have hK : BoolAt (w.heap.size + 1) false ((w.alloc (.cells #[.bool want] 4)).alloc (.cells #[.bool false] 4)) := by
    have := heap_alloc_new (w.alloc (.cells #[.bool want] 4)) (.cells #[.bool false] 4)
    simpa [BoolAt] using this
  have hC := each_any (direct_sees w w.heap.size (w.heap.size + 1) want (Nat.le_refl _) (by omega) (by omega)) (size n) n u false false 0 _ (Nat.le_refl _) hz hg hn hb ⟨hJ, hK⟩
  rw [seen_direct want n false false, Bool.false_or] at hC
  have HC := Lib.hid hC
  have HB := Lib.hid hb
  clear hn hb hJ hK hC
  go_enter Tryz.func107, Tryz.ntmps107
  go_wp2_with fail
  refine HC.out.mono ?_
  rintro e x ⟨rfl, ⟨-, hK⟩, ha⟩
  obtain ⟨c0, -⟩ := hK.cell
  have HX := Lib.hid (HB.out.trans (ha.turns.below HB.out.size fun k hk => by subst hk; omega))
  clear hK ha
  go_wp2_with fail
  go_ret
  exact ⟨rfl, HX.out⟩

theorem Plain_any (n : Nd) (u : Value) (w : World) (hn : IsExpr 0 w n u) :
    Calls Tryz.prog 168 #[u] w fun e x => e = .returned (.bool (isThis n)) ∧ Below w.heap.size w x := by
  have HC := Lib.hid (plain_any n u w hn)
  clear hn
  go_enter Tryz.func168, Tryz.ntmps168
  go_wp2_with fail
  refine HC.out.mono ?_
  rintro e x ⟨rfl, hx⟩
  go_wp2_with fail
  go_ret
  exact ⟨rfl, hx⟩
end Tr
end Go.Proofs.YtopncohhagebbaaGreatDoor
