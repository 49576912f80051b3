/-
  Layer 10 (cask): a map whose keys are two addresses and a number: what is looked up with an address that no key has isn't there, and is laid.
-/
import Derived.Test.YticcldohgbpcbaaGreatDoorCgB
import Derived.LaidEqlPtr
import Derived.MapKept
import Derived.Maps.OwnSet
namespace Go.Proofs.YticcldohgbpcbaaGreatDoor
open Go.RowKit
namespace Ck
open Knot (Turns)

abbrev tPair : TypeId := 192
abbrev tPairs : TypeId := 154
abbrev pairK (p : Nat) (q : Addr) (n : Int) : Value := .agg #[.pointer (some ⟨p, 0, none⟩), .pointer (some q), .int .i64 n]
theorem under_pairs : Tryz.prog.underlying tPairs = some (.map tPair 3) := by kernel_rfl
theorem pair_check (em : Bool) (p : Nat) (q : Addr) (n : Int) (w : World) : (Instr.checkKey em 10000 tPair (pairK p q n)).run Tryz.prog w = .ok () w := by kernel_rfl
theorem ptr_other (d : Nat) {p p' : Nat} {w : World} {c c' : Array Value} {t t' : TypeId} (hne : p ≠ p') (h : w.heap[p]? = some (.cells c t (0, 0))) (h' : w.heap[p']? = some (.cells c' t' (0, 0))) :
    (Op.equalIn (d + 1) 190 (.pointer (some ⟨p, 0, none⟩)) (.pointer (some ⟨p', 0, none⟩))).run Tryz.prog w = .ok false w := by
  have hs : (sizeOf 50).run Tryz.prog w = .ok 4 w := by kernel_rfl
  simp [Op.equalIn, run_underlying Tryz.underlying190, hs, run_sameAddr_other w (a := ⟨p, 0, none⟩) (b := ⟨p', 0, none⟩) (fun e => hne (congrArg Addr.block e)) h h', Result.andThen]
theorem pair_part (p : Nat) (q : Addr) (n : Int) (w : World) : (part 190 #[.pointer (some ⟨p, 0, none⟩), .pointer (some q), .int .i64 n] 0).run Tryz.prog w = .ok (.pointer (some ⟨p, 0, none⟩)) w := by kernel_rfl
theorem pair_held : Tryz.prog.stoodInHeld tPair = false := by kernel_rfl
theorem pair_other {p p' : Nat} {q q' : Addr} {n n' : Int} {w : World} {c c' : Array Value} {t t' : TypeId} (hne : p ≠ p') (h : w.heap[p]? = some (.cells c t (0, 0))) (h' : w.heap[p']? = some (.cells c' t' (0, 0))) :
    (Op.equal tPair (pairK p q n) (pairK p' q' n')).run Tryz.prog w = .ok false w := by
  have h1 := ptr_other 9998 hne h h'
  rw [Op.equal, Op.maxDepth, Op.equalIn]
  simp [run_underlying Tryz.underlying192, pair_part, h1, Result.andThen]
/-- A block of memory that is a row. -/
def IsCells (x : World) (p : Nat) : Prop := ∃ c t, x.heap[p]? = some (.cells c t (0, 0))
theorem find_none {p : Nat} {q : Addr} {n : Int} {w : World} (hp : IsCells w p) : ∀ es : List MapEntry, (∀ e ∈ es, ∃ p' q' n', e.key = pairK p' q' n' ∧ p ≠ p' ∧ IsCells w p') → (Instr.findKey tPair (pairK p q n) es).run Tryz.prog w = .ok none w := by
  obtain ⟨c, t, h⟩ := hp
  have hask : ∀ (es : List MapEntry) (i : Nat), (∀ e ∈ es, ∃ p' q' n', e.key = pairK p' q' n' ∧ p ≠ p' ∧ IsCells w p') → (Instr.findAsking tPair (pairK p q n) es i).run Tryz.prog w = .ok none w := by
    intro es
    induction es with
    | nil => intro i _; simp [Instr.findAsking]
    | cons e es ih =>
      intro i he
      obtain ⟨p', q', n', hk, hne, c', t', h'⟩ := he e (List.mem_cons_self ..)
      rw [Instr.findAsking]
      simp [hk, pair_other hne h h', ih (i + 1) fun e he' => he e (List.mem_cons_of_mem _ he'), Result.andThen]
  intro es he
  match es, he with
  | [], _ => simp [Instr.findKey, run_underlying Tryz.underlying192, Instr.findNow, Result.andThen]
  | e :: es, he =>
    have hs : ∀ fs, Instr.sameNow (.struct fs) (pairK p q n) e.key = none := fun fs => rfl
    rw [Instr.findKey]
    simp [run_underlying Tryz.underlying192, Instr.findNow, hs, hask (e :: es) 0 he, Result.andThen]
/-- A map whose keys' first addresses are of G. -/
def Came (x : World) (b : Nat) (G : List Nat) : Prop := ∃ es clock, x.heap[b]? = some (.map es clock) ∧ ∀ e ∈ es.toList, ∃ p q n, e.key = pairK p q n ∧ p ∈ G
theorem Came.lt {x : World} {b : Nat} {G : List Nat} (h : Came x b G) : b < x.heap.size := by
  obtain ⟨es, clock, hb, -⟩ := h
  exact (Array.getElem?_eq_some_iff.1 hb).1
theorem Came.turn {x y : World} {b : Nat} {G : List Nat} {F : Nat → Prop} (h : Came x b G) (ht : Turns F x y) (hF : ¬ F b) : Came y b G := by
  have hl := h.lt
  obtain ⟨es, clock, hb, h2⟩ := h
  exact ⟨es, clock, (ht.block b hl hF).trans hb, h2⟩
theorem Came.made (w : World) : Came (w.alloc (.map #[] 0)) w.heap.size [] := ⟨#[], 0, heap_alloc_new w _, fun e h => by simp at h⟩
section
variable {x : World} {b p : Nat} {q : Addr} {n : Int} {G : List Nat}
theorem Came.look (h : Came x b G) (hG : ∀ g ∈ G, IsCells x g) (hp : IsCells x p) (hn : p ∉ G) :
    (Instr.lookup tPairs (.map (some b)) (pairK p q n) true).run Tryz.prog x = .ok (.tuple #[.int .i64 0, .bool false]) x := by
  obtain ⟨es, clock, hb, h2⟩ := h
  have hf := find_none (q := q) (n := n) hp es.toList fun e he => by
    obtain ⟨p', q', n', hk, hm⟩ := h2 e he
    exact ⟨p', q', n', hk, fun e => hn (e ▸ hm), hG p' hm⟩
  simp [Instr.lookup, run_underlying under_pairs, MapKept.run_getObj_map hb, pair_check, hf, Result.andThen]
theorem Came.put (h : Came x b G) (hG : ∀ g ∈ G, IsCells x g) (hp : IsCells x p) (hn : p ∉ G) (v : Value) :
    ∃ y, (Instr.mapUpdate tPairs (.map (some b)) (pairK p q n) v).run Tryz.prog x = .ok () y ∧ Came y b (p :: G) ∧ Turns (fun k => k = b) x y := by
  obtain ⟨es, clock, hb, h2⟩ := h
  have hf := find_none (q := q) (n := n) hp es.toList fun e he => by
    obtain ⟨p', q', n', hk, hm⟩ := h2 e he
    exact ⟨p', q', n', hk, fun e => hn (e ▸ hm), hG p' hm⟩
  refine ⟨{ x with heap := x.heap.setIfInBounds b (.map (es.push { key := pairK p q n, val := v, born := clock }) (clock + 1)) }, ?_, ⟨es.push { key := pairK p q n, val := v, born := clock }, clock + 1, ?_, fun e he => ?_⟩, ?_⟩
  · simp [Instr.mapUpdate, run_underlying under_pairs, MapKept.run_getObj_map hb, pair_check, hf, MapKept.run_setObj_map _ hb, Result.andThen]
  · have hl := (Array.getElem?_eq_some_iff.1 hb).1
    simp [hl]
  · rw [Array.toList_push, List.mem_append, List.mem_singleton] at he
    rcases he with he | rfl
    · obtain ⟨p', q', n', hk, hm⟩ := h2 e he
      exact ⟨p', q', n', hk, List.mem_cons_of_mem _ hm⟩
    · exact ⟨p, q, n, rfl, List.mem_cons_self ..⟩
  · refine ⟨rfl, rfl, rfl, by simp, fun k hk hne => ?_⟩
    simp only [Array.getElem?_setIfInBounds]
    rw [if_neg (fun e => hne e.symm)]
section
variable {ops : Array Oper} {rest : List Oper} {o : Oper} {a : Act} {Q : Exit → Act → World → Prop}
/-- For the walk: a store. -/
theorem walk_came (hgd : o.guard = none) (mo ko vo : Operand) (hop : o.op = .mapUpdate tPairs mo ko vo) (h : Came x b G) (hG : ∀ g ∈ G, IsCells x g) (hp : IsCells x p) (hn : p ∉ G) {v : Value}
    (hm : a.eval mo = .map (some b)) (hk : a.eval ko = pairK p q n) (hv : a.eval vo = v)
    (hK : ∀ y, Came y b (p :: G) → Turns (fun k => k = b) x y → wpList Tryz.prog ops Q rest (a.put o.dst undef) y) : wpList Tryz.prog ops Q (o :: rest) a x := by
  refine wpList_plain hgd fun K' hK' => ?_
  obtain ⟨y, hr, h1, h2⟩ := h.put hG hp hn (q := q) (n := n) v
  unfold Oper.wp
  simp [execOp, hop, hm, hk, hv, hr, Result.andThen]
  exact hK' _ _ (hK y h1 h2)
end
end

/-! ### fresh -/
theorem at_zero (g o n cap : Nat) (h : 0 < n) (W : World) : (Instr.indexAt 48 (.slice (some ⟨g, o, none⟩) n cap) (.int .i64 0)).run Tryz.prog W = .ok (.pointer (some ⟨g, o, none⟩)) W := by
  rw [run_indexAt_slice W _ _ _ _ _ _ Tr.elemN, if_pos ⟨by omega, by omega⟩, Tr.sizeN]
  simp [Result.andThen, Addr.add_lit]
theorem fresh_none (b n : Nat) (ao bo : Option Addr) (cap cap' : Nat) (hn : n = 0) (x : World) :
    Calls Tryz.prog 87 #[.map (some b), .slice ao n cap, .slice bo n cap'] x fun e y => e = .returned (.bool false) ∧ y = x := by
  subst hn
  go_enter Tryz.func87, Tryz.ntmps87
  go_wp2_with fail
  go_ret
  exact ⟨rfl, rfl⟩
set_option maxHeartbeats 4000000 in
set_option maxRecDepth 100000 in
theorem fresh_some (b p g o n cap cap' : Nat) (G : List Nat) (x : World) (hn : 0 < n) (h : Came x b G) (hG : ∀ g ∈ G, IsCells x g) (hp : IsCells x p) (hpG : p ∉ G) :
    Calls Tryz.prog 87 #[.map (some b), .slice (some ⟨p, 0, none⟩) n cap, .slice (some ⟨g, o, none⟩) n cap'] x fun e y => e = .returned (.bool true) ∧ Came y b (p :: G) ∧ Turns (fun k => k = b) x y := by
  have i1 := at_zero p 0 n cap hn
  have i2 := at_zero g o n cap' hn
  have hz : ((n : Int) == 0) = false := by simp; omega
  have HH := Lib.hid (And.intro h (And.intro hG (And.intro hp hpG)))
  clear h hG hp hpG hn
  go_enter Tryz.func87, Tryz.ntmps87
  go_wp2_with fail
  go_region
  have hb : Below x.heap.size x (x.alloc (.cells #[.pointer (some ⟨p, 0, none⟩), .pointer (some ⟨g, o, none⟩), .int .i64 (n : Int)] tPair)).drew := (Tr.fresh_one x _).trans (Below.refl _ _).drew
  have hk : (x.alloc (.cells #[.pointer (some ⟨p, 0, none⟩), .pointer (some ⟨g, o, none⟩), .int .i64 (n : Int)] tPair)).drew.heap[x.heap.size]? = some (.cells #[.pointer (some ⟨p, 0, none⟩), .pointer (some ⟨g, o, none⟩), .int .i64 (n : Int)] tPair (0, 0)) := heap_alloc_new x _
  have HB := Lib.hid (And.intro hb hk)
  clear hb hk
  generalize (x.alloc (.cells #[.pointer (some ⟨p, 0, none⟩), .pointer (some ⟨g, o, none⟩), .int .i64 (n : Int)] 192)).drew = X at *
  have hcells : ∀ r, IsCells x r → IsCells X r := fun r ⟨c, t, h⟩ => ⟨c, t, (HB.out.1.block r (Array.getElem?_eq_some_iff.1 h).1).trans h⟩
  have hcame : Came X b G := HH.out.1.turn (F := fun _ => False) (Turns.of_below HB.out.1) id
  have HX := Lib.hid (show Came X b G ∧ (∀ g ∈ G, IsCells X g) ∧ IsCells X p ∧ p ∉ G from ⟨hcame, fun g hg => hcells g (HH.out.2.1 g hg), hcells p HH.out.2.2.1, HH.out.2.2.2⟩)
  have hlook := HX.out.1.look (q := ⟨g, o, none⟩) (n := (n : Int)) HX.out.2.1 HX.out.2.2.1 HX.out.2.2.2
  obtain ⟨c0, c1, c2⟩ := box3 HB.out.2
  obtain ⟨es, clock, hm, -⟩ := hcame
  have hlen : (Builtin.len_ #[tPairs] 3 #[.map (some b)]).run Tryz.prog X = .ok (.int .i64 es.size) X := run_len_map X tPairs _ b es clock (by kernel_rfl) hm
  clear hcells HH i1 i2 hm
  go_wp2_with (at_mapUpdate; refine walk_came rfl _ _ _ rfl HX.out.1 HX.out.2.1 HX.out.2.2.1 HX.out.2.2.2 rfl rfl rfl ?_)
  intro y hy ht
  have HY := Lib.hid (And.intro hy (ht.after_below HB.out.1))
  clear hy ht hlook hlen c0 c1 c2
  go_wp2_with fail
  go_ret
  exact ⟨rfl, HY.out.1, HY.out.2⟩
end Ck
end Go.Proofs.YticcldohgbpcbaaGreatDoor
