/-
  HedgePlays: the program's hedge and the document's list side by side.
-/
import Derived.Test.YtldacdpejncbnaaHgFill
namespace Go.Proofs.Ytldacdpejncbnaa
open Go.RowKit
namespace Hg
open Knot (Turns NewRow)
open Tr (IsElem own_turn own_below own_slice own_open walk_rows)

abbrev tAc : TypeId := 28
abbrev tAs : TypeId := 22
theorem begins_empty (k : ByteArray) : begins ByteArray.empty k = true := begins_iff.2 List.nil_prefix
theorem sel_empty (L : List Ent) (q : ByteArray) : L.filter (sel q ByteArray.empty) = upon L q := by
  unfold upon
  congr 1
  funext e
  rw [sel, begins_empty, Bool.and_true]
theorem sel_same (L : List Ent) (q : ByteArray) : L.filter (sel q q) = (upon L q).filter fun e => begins q e.1 := by
  rw [upon, List.filter_filter]
  congr 1
  funext e
  rw [sel, Bool.and_comm]
theorem isT_type {w : World} : ∀ {t : T}, IsT w t → ∀ b ∈ t.blks, ∃ cs, w.heap[b]? = some (.cells cs tNd (0, 0))
  | .nil, _, b, h => by cases h
  | .bin c l k a r, h, b, hb => by
    rcases List.mem_cons.1 hb with rfl | hb
    · exact ⟨_, h.1⟩
    · rcases List.mem_append.1 hb with hb | hb
      · exact isT_type h.2.1 b hb
      · exact isT_type h.2.2 b hb
/-- A block of another type is none of a hedge. -/
theorem tree_ne {w : World} {p k : Nat} {t : T} {cs : Array Value} {U : TypeId} (h : IsH w p t) (hk : w.heap[k]? = some (.cells cs U (0, 0))) (h1 : U ≠ tNd) (h2 : U ≠ tHd) : k ∉ p :: t.blks := fun hm => by
  rcases List.mem_cons.1 hm with rfl | hm
  · rw [h.box] at hk
    injection Option.some.inj hk with h3 h4
    exact h2 h4.symm
  · obtain ⟨c, hc⟩ := isT_type h.tree k hm
    rw [hc] at hk
    injection Option.some.inj hk with h3 h4
    exact h1 h4.symm
theorem Ro.apart {w : World} {p : Nat} {t : T} {v : Value} {L : List Ent} (h : Ro tDe w v L) (hh : IsH w p t) : ∀ k, v.ownBlock = some k → k ∉ p :: t.blks := fun k hk => by
  obtain ⟨cur, hc⟩ := own_heap h hk
  exact tree_ne hh hc (by decide) (by decide)
/-- Both, side by side. -/
structure Pl (B p : Nat) (w : World) (t : T) (mv : Value) : Prop where
  al : Al B p w t
  row : Ro tDe w mv t.ents
  short : Short t.ents
theorem Pl.on {B p : Nat} {w x : World} {t : T} {mv : Value} (h : Pl B p w t mv) (hb : Below w.heap.size w x) : Pl B p x t mv := ⟨h.al.on hb, h.row.on hb, h.short⟩
/-- An act in a box. -/
def AcB (w : World) (A : Nat) (a : Act) : Prop := w.heap[A]? = some (.cells #[.int .i64 a.kind, .int .i64 a.n, .string a.key] tAc (0, 0))
theorem AcB.on {w x : World} {A : Nat} {a : Act} (h : AcB w A a) (hb : Below w.heap.size w x) : AcB x A a := (hb.block A (lt_of h)).trans h
theorem AcB.cells {w : World} {A : Nat} {a : Act} (h : AcB w A a) : w.cell? ⟨A, 0, none⟩ = some (.int .i64 a.kind) ∧ w.cell? ⟨A, 1, none⟩ = some (.int .i64 a.n) ∧ w.cell? ⟨A, 2, none⟩ = some (.string a.key) := by
  refine ⟨?_, ?_, ?_⟩ <;> (rw [Lib.cell_of_heap h]; rfl)
/-- A call that turned the hedge: what else there is stays. -/
theorem Pl.became {B p : Nat} {w x : World} {t : T} {mv : Value} {L : List Ent} (h : Pl B p w t mv) (hB : B ≤ w.heap.size) (hb : Became w p t L x) :
    (∃ t', Al B p x t' ∧ t'.ents = L) ∧ Below B w x ∧ Ro tDe x mv t.ents ∧ ∀ A a, AcB w A a → AcB x A a := by
  obtain ⟨t', h1, h2, h3⟩ := h.al.became hB hb
  obtain ⟨-, -, -, ht, -⟩ := hb
  exact ⟨⟨t', h1, h2⟩, h3, h.row.turn ht (h.row.apart h.al.h), fun A a ha => ht.heap ha (tree_ne h.al.h ha (by decide) (by decide))⟩
theorem short_put {L : List Ent} (h : Short L) {q : ByteArray} (x : Int) (hq : q.size ≤ 4000000) : Short (put L q x) := fun e he => by
  rcases List.mem_append.1 he with he | he
  · exact h e (List.mem_filter.1 he).1
  · rcases List.mem_cons.1 he with rfl | he
    · exact hq
    · exact h e (List.mem_filter.1 he).1
theorem short_drop {L : List Ent} (h : Short L) (q : ByteArray) : Short (drop L q) := fun e he => by
  rcases List.mem_append.1 he with he | he <;> exact h e (List.mem_filter.1 he).1
theorem put_more {L : List Ent} (h : Rises L) (k : ByteArray) (a : Int) : (put L k a).length ≤ L.length + 1 := by
  rw [put_len h]; split <;> omega
/-- The act that is done. -/
theorem IsActs.at {w : World} {v : Value} {l : List Act} (h : IsActs w v l) {i : Nat} (hi : i < l.length) : ∃ b o cap, v = .slice (some ⟨b, o, none⟩) l.length cap ∧
    (∀ W, (Instr.indexAt tAs (.slice (some ⟨b, o, none⟩) l.length cap) (.int .i64 (i : Int))).run Try.prog W = .ok (.pointer (some ⟨b, o + i * 3, none⟩)) W) ∧
    w.cell? ⟨b, o + i * 3, none⟩ = some (.int .i64 l[i].kind) ∧ w.cell? ⟨b, o + i * 3 + 1, none⟩ = some (.int .i64 l[i].n) ∧ w.cell? ⟨b, o + i * 3 + 2, none⟩ = some (.string l[i].key) := by
  obtain ⟨ao, cap, rfl, hc⟩ := h
  obtain ⟨b, o, rfl, hx⟩ := hc (fun e => by rw [e] at hi; simp at hi)
  have elemA : Try.prog.underlying tAs = some (.slice (Try.prog.elem tAs)) := by kernel_rfl
  have sizeA : ∀ w, (sizeOf (Try.prog.elem tAs)).run Try.prog w = .ok 3 w := fun w => by kernel_rfl
  refine ⟨b, o, cap, rfl, fun W => ?_, hx i hi⟩
  rw [run_indexAt_slice W _ _ _ _ _ _ elemA, if_pos ⟨by omega, by omega⟩, sizeA]
  have e : ((i : Int)).toNat = i := by omega
  simp only [Result.andThen_ok, e, Addr.add_lit]
end Hg
end Go.Proofs.Ytldacdpejncbnaa
