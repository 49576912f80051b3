/-
  Layer 5 (tract): a type assertion without ok, of what is no Arrow: it panics with a new error.
-/
import Derived.Test.YtleoknhnglbgoaaTrAs
namespace Go.Proofs.Ytleoknhnglbgoaa
open Go.RowKit
namespace Tr

theorem arrow_no_This (x : Value) (W : World) : (Instr.typeAssert (.iface 71 x) 28 46 false).run Try.prog W = .halt (.panic (.iface 15 (.pointer (some ⟨W.heap.size, 0, none⟩)))) (W.alloc (.cells #[typeHandle Try.prog 28, typeHandle Try.prog 71, typeHandle Try.prog 46, strVal ""] 85)) := by kernel_rfl
theorem arrow_no_Computed (x : Value) (W : World) : (Instr.typeAssert (.iface 62 x) 28 46 false).run Try.prog W = .halt (.panic (.iface 15 (.pointer (some ⟨W.heap.size, 0, none⟩)))) (W.alloc (.cells #[typeHandle Try.prog 28, typeHandle Try.prog 62, typeHandle Try.prog 46, strVal ""] 85)) := by kernel_rfl
theorem arrow_no_Union (x : Value) (W : World) : (Instr.typeAssert (.iface 66 x) 28 46 false).run Try.prog W = .halt (.panic (.iface 15 (.pointer (some ⟨W.heap.size, 0, none⟩)))) (W.alloc (.cells #[typeHandle Try.prog 28, typeHandle Try.prog 66, typeHandle Try.prog 46, strVal ""] 85)) := by kernel_rfl
theorem arrow_no_Meet (x : Value) (W : World) : (Instr.typeAssert (.iface 67 x) 28 46 false).run Try.prog W = .halt (.panic (.iface 15 (.pointer (some ⟨W.heap.size, 0, none⟩)))) (W.alloc (.cells #[typeHandle Try.prog 28, typeHandle Try.prog 67, typeHandle Try.prog 46, strVal ""] 85)) := by kernel_rfl
theorem arrow_no_Except (x : Value) (W : World) : (Instr.typeAssert (.iface 69 x) 28 46 false).run Try.prog W = .halt (.panic (.iface 15 (.pointer (some ⟨W.heap.size, 0, none⟩)))) (W.alloc (.cells #[typeHandle Try.prog 28, typeHandle Try.prog 69, typeHandle Try.prog 46, strVal ""] 85)) := by kernel_rfl
end Tr
end Go.Proofs.Ytleoknhnglbgoaa
