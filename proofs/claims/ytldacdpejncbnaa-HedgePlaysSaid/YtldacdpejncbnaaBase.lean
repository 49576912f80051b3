/-
  Helpers of the walks over texts: what is left of a text behind a place; bytes; the widths of runes.
-/
import Derived.Test.YtldacdpejncbnaaGlyPureB
import Derived.Test.YtldacdpejncbnaaShelf
import Derived.WalkKit
import Derived.WalkSmall
import Derived.BigCall
import Derived.BigQuiet
import Derived.Deep.QuietTactic
import Derived.Lib.Hide
import Derived.IntWalk
namespace Go.Proofs.Ytldacdpejncbnaa
open Go.RowKit
namespace Gl
theorem drop_ne {s : ByteArray} {p : Nat} (h : p < s.size) : s.data.toList.drop p ≠ [] := by
  intro e
  have := congrArg List.length e
  rw [List.length_drop, ← Lib.size_eq] at this
  simp at this; omega

theorem flip {P : Program} {f : FuncId} {a : Array Value} {w : World} {x : Ending} (h : Calls P f a w fun e w' => e = x ∧ w' = w) : Calls P f a w fun e w' => e = x ∧ w = w' :=
  h.mono fun _ _ ⟨a, b⟩ => ⟨a, b.symm⟩

theorem extract_list (s : ByteArray) (p : Nat) : (s.extract p s.size).data.toList = s.data.toList.drop p := by
  rw [Lib.extract_data]
  exact List.take_of_length_le (by rw [List.length_drop, Lib.size_eq]; exact Nat.le_refl _)

end Gl
namespace Ref

theorem byte_at {s : ByteArray} {p k : Nat} (h : p + k < s.size) : Gly.byte (s.data.toList.drop p) k = (s[p + k]).toNat := by
  unfold Gly.byte
  rw [Gly.getD_drop]
  have h' : p + k < s.data.toList.length := by rw [← Lib.size_eq]; exact h
  rw [List.getD, List.getElem?_eq_getElem h']
  simp
  rfl
theorem byte_at0 {s : ByteArray} {p : Nat} (h : p < s.size) : Gly.byte (s.data.toList.drop p) 0 = (s[p]).toNat := byte_at (k := 0) h
theorem len_drop (s : ByteArray) (p : Nat) : (s.data.toList.drop p).length = s.size - p := by rw [List.length_drop, ← Lib.size_eq]

end Ref
namespace Gl
theorem width (s : ByteArray) (p : Nat) (h : p < s.size) : 1 ≤ (Utf8.decode s p).2 ∧ p + (Utf8.decode s p).2 ≤ s.size := by
  have := Gly.dec_width _ (drop_ne h)
  rw [Gly.dec_at]
  rw [List.length_drop, ← Lib.size_eq] at this
  omega

theorem drop_next (s : ByteArray) (p : Nat) : (s.data.toList.drop p).drop (Gly.dec (s.data.toList.drop p)).2 = s.data.toList.drop (p + (Utf8.decode s p).2) := by
  rw [List.drop_drop, Gly.dec_at]

theorem drop_end {s : ByteArray} {p : Nat} (h : ¬ p < s.size) : s.data.toList.drop p = [] := List.drop_eq_nil_of_le (by rw [← Lib.size_eq]; omega)

end Gl
end Go.Proofs.Ytldacdpejncbnaa
