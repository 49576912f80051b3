/-
  The document's answers in this program: Unquote.
-/
import Derived.Test.YtldfobciojmlnaaDoorUnqRefA
namespace Go.Proofs.YtldfobciojmlnaaDoor
open Go.RowKit
namespace Ref

theorem nil_string (W : World) : (convert 48 9 (.slice none 0 0)).run Tryd.prog W = .ok (.string ⟨#[]⟩) W := by kernel_rfl
/-- A row of bytes of one's own, as a string. -/
theorem row_string {w : World} {B : Nat} {v : Value} {l : List UInt8} (h : w.ownsRow B 5 1 v l.length (Lib.byteCells l)) :
    (convert 48 9 v).run Tryd.prog w = .ok (.string ⟨l.toArray⟩) w := by
  rcases h.2 with ⟨rfl, h0⟩ | ⟨g, cap, cur, rfl, hr⟩
  · have : l = [] := List.eq_nil_of_length_eq_zero h0
    subst this
    exact nil_string w
  · rw [run_convert_bytes_arg w 48 5 Tryd.underlying48 Tryd.underlying5 g 0 l.length cap (l.map fun b => (b.toNat : Int)) (by simp) ?_ 9 Tryd.underlying9]
    · have : strOfNums (l.map fun b => (b.toNat : Int)) = ⟨l.toArray⟩ := by
        rw [strOfNums]; simp [Function.comp_def]
      rw [this]
    · intro i hi
      rw [Nat.zero_add, h.cellAt i (by omega)]
      simp [Lib.byteCells, List.getD_eq_getElem?_getD, hi]

def unqRV : Option (List UInt8) → Value
  | some t => .tuple #[.string ⟨t.toArray⟩, .bool true]
  | none => .tuple #[.string ⟨#[]⟩, .bool false]

theorem inner_short (s : ByteArray) (w : World) (h : s.size < 2) :
    Calls Tryd.prog 22 #[.string s] w fun e w' => e = .returned (unqRV none) ∧ Below w.heap.size w w' := by
  go_enter Tryd.func22, Tryd.ntmps22
  go_wp2
  go_ret2
  exact ⟨rfl, Below.refl _ _⟩
theorem inner_front (s : ByteArray) (w : World) (h : 2 ≤ s.size) (hs : s.size ≤ 100000) (h0 : (s[0]).toNat ≠ 34) :
    Calls Tryd.prog 22 #[.string s] w fun e w' => e = .returned (unqRV none) ∧ Below w.heap.size w w' := by
  have e0 : (((s[0]).toNat : Int) != 34) = true := by simp; omega
  go_enter Tryd.func22, Tryd.ntmps22
  go_wp2
  go_ret2
  exact ⟨rfl, Below.refl _ _⟩
theorem inner_back (s : ByteArray) (w : World) (h : 2 ≤ s.size) (hs : s.size ≤ 100000) (h0 : (s[0]).toNat = 34) (h1 : (s[s.size - 1]).toNat ≠ 34) :
    Calls Tryd.prog 22 #[.string s] w fun e w' => e = .returned (unqRV none) ∧ Below w.heap.size w w' := by
  have e0 : (((s[0]).toNat : Int) != 34) = false := by simp; omega
  have e1 : (((s[s.size - 1]).toNat : Int) != 34) = true := by simp; omega
  have hn : ((s.size : Int) - 1).toNat = s.size - 1 := by omega
  go_enter Tryd.func22, Tryd.ntmps22
  go_wp2
  trace_state
  go_ret2
  exact ⟨rfl, Below.refl _ _⟩
end Ref
end Go.Proofs.YtldfobciojmlnaaDoor
