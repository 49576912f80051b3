/-
  Layer 15's statements, pure: keys that are put one behind the other; what is told of them.
-/
import Derived.Test.YtldacdpejncbnaaHgRefD
import Derived.Test.YtldacdpejncbnaaHgArg
import Derived.Test.YtldacdpejncbnaaHgAwake
namespace Go.Proofs.Ytldacdpejncbnaa
open Go.RowKit
namespace Hg
open Knot (Turns NewRow)

theorem bytesLess_L : ∀ a b : List UInt8, Op.bytesLess a b = decide (cmpL a b < 0)
  | [], [] => rfl
  | [], _ :: _ => rfl
  | _ :: _, [] => rfl
  | x :: a, y :: b => by
    rw [Op.bytesLess, cmpL_cons, bytesLess_L a b]
    have h1 : (x < y) = (x.toNat < y.toNat) := propext UInt8.lt_iff_toNat_lt
    by_cases c1 : x.toNat < y.toNat
    · rw [if_pos c1]; simp [h1, c1]
    · by_cases c2 : y.toNat < x.toNat
      · rw [if_neg c1, if_pos c2]
        have : ¬ x = y := fun e => by rw [e] at c2; omega
        simp [h1, c1, this]
      · rw [if_neg c1, if_neg c2]
        obtain rfl : x = y := UInt8.toNat_inj.1 (by omega)
        simp [h1]
theorem less_of {a b : ByteArray} (h : cmp a b < 0) : Op.bytesLess a.toList b.toList = true := by
  rw [bytesLess_L, ByteArray.toList_eq, ByteArray.toList_eq]
  exact decide_eq_true h
abbrev tSt : TypeId := 48
theorem elemT : Try.prog.underlying tSt = some (.slice (Try.prog.elem tSt)) := by kernel_rfl
theorem sizeT : ∀ w, (sizeOf (Try.prog.elem tSt)).run Try.prog w = .ok 1 w := fun w => by kernel_rfl
theorem IsTx.at {w : World} {v : Value} {l : List ByteArray} (h : IsTx w v l) {i : Nat} (hi : i < l.length) : ∃ b o cap, v = .slice (some ⟨b, o, none⟩) l.length cap ∧
    (∀ W, (Instr.indexAt tSt (.slice (some ⟨b, o, none⟩) l.length cap) (.int .i64 (i : Int))).run Try.prog W = .ok (.pointer (some ⟨b, o + i, none⟩)) W) ∧ w.cell? ⟨b, o + i, none⟩ = some (.string l[i]) := by
  obtain ⟨ao, cap, rfl, hc⟩ := h
  obtain ⟨b, o, rfl, hx⟩ := hc (fun e => by rw [e] at hi; simp at hi)
  refine ⟨b, o, cap, rfl, fun W => ?_, hx i hi⟩
  rw [run_indexAt_slice W _ _ _ _ _ _ elemT, if_pos ⟨by omega, by omega⟩, sizeT]
  have e : ((i : Int)).toNat = i := by omega
  simp only [Result.andThen_ok, e, Addr.add_lit, Nat.mul_one]
/-- Keys with numbers, one behind the other. -/
def fillN (l : List ByteArray) (f : Nat → Option Int) : Nat → List Ent
  | 0 => []
  | j + 1 => match l[j]?, f j with
    | some s, some x => put (fillN l f j) s x
    | _, _ => fillN l f j
theorem fillN_succ {l : List ByteArray} {f : Nat → Option Int} {j : Nat} (h : j < l.length) {x : Int} (hx : f j = some x) : fillN l f (j + 1) = put (fillN l f j) l[j] x := by
  rw [fillN, List.getElem?_eq_getElem h, hx]
theorem fillN_skip {l : List ByteArray} {f : Nat → Option Int} {j : Nat} (hx : f j = none) : fillN l f (j + 1) = fillN l f j := by
  rw [fillN, hx]
  cases l[j]? <;> rfl
theorem fillN_rises (l : List ByteArray) (f : Nat → Option Int) : ∀ j, Rises (fillN l f j)
  | 0 => List.Pairwise.nil
  | j + 1 => by
    rw [fillN]
    split
    · exact (fillN_rises l f j).put _ _
    · exact fillN_rises l f j
theorem fillN_len (l : List ByteArray) (f : Nat → Option Int) : ∀ j, (fillN l f j).length ≤ j
  | 0 => Nat.le_refl _
  | j + 1 => by
    have ih := fillN_len l f j
    rw [fillN]
    split
    · rw [put_len (fillN_rises l f j)]
      split <;> omega
    · omega
theorem fillN_from (l : List ByteArray) (f : Nat → Option Int) : ∀ j, ∀ e ∈ fillN l f j, ∃ i, i < j ∧ l[i]? = some e.1 ∧ f i = some e.2
  | 0, e, h => by cases h
  | j + 1, e, h => by
    rw [fillN] at h
    split at h
    · rename_i s x h1 h2
      rcases List.mem_append.1 h with h | h
      · obtain ⟨i, h3, h4⟩ := fillN_from l f j e (List.mem_filter.1 h).1
        exact ⟨i, by omega, h4⟩
      · rcases List.mem_cons.1 h with rfl | h
        · exact ⟨j, by omega, h1, h2⟩
        · obtain ⟨i, h3, h4⟩ := fillN_from l f j e (List.mem_filter.1 h).1
          exact ⟨i, by omega, h4⟩
    · obtain ⟨i, h3, h4⟩ := fillN_from l f j e h
      exact ⟨i, by omega, h4⟩
theorem rank_at {L : List Ent} (h : Rises L) {i : Nat} (hi : i < L.length) : rank L L[i].1 = i := by
  have hL : L = L.take i ++ L[i] :: L.drop (i + 1) := by rw [List.getElem_cons_drop, List.take_append_drop]
  have h' : Rises (L.take i ++ L[i] :: L.drop (i + 1)) := by rw [← hL]; exact h
  have := (mid_at h' rfl).1
  rw [← hL] at this
  rw [rank, this, List.length_take]
  omega
theorem get_nth {L : List Ent} (h : Rises L) {i : Nat} (hi : i < L.length) : get L L[i].1 = some L[i].2 := get_some h (List.getElem_mem hi)
theorem rises_nth {L : List Ent} (h : Rises L) {i j : Nat} (hij : i < j) (hj : j < L.length) : cmp (L[i]'(by omega)).1 L[j].1 < 0 := List.pairwise_iff_getElem.1 h i j (by omega) hj hij
end Hg
end Go.Proofs.Ytldacdpejncbnaa
