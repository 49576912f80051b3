/-
  Layer 5 (tract): type assertions at each of the six types, for every world.
-/
import Derived.Test.YtdlfbikpniionaaGreatDoorTrMem
namespace Go.Proofs.YtdlfbikpniionaaGreatDoor
open Go.RowKit
namespace Tr

theorem asThis_hit (x : Value) (W : World) : (Instr.typeAssert (.iface 95 x) 72 95 true).run Tryz.prog W = .ok (.tuple #[x, .bool true]) W := by kernel_rfl
theorem asThis_Computed (x : Value) (W : World) : (Instr.typeAssert (.iface 98 x) 72 95 true).run Tryz.prog W = .ok (.tuple #[.agg #[], .bool false]) W := by kernel_rfl
theorem asThis_Arrow (x : Value) (W : World) : (Instr.typeAssert (.iface 101 x) 72 95 true).run Tryz.prog W = .ok (.tuple #[.agg #[], .bool false]) W := by kernel_rfl
theorem asThis_Union (x : Value) (W : World) : (Instr.typeAssert (.iface 105 x) 72 95 true).run Tryz.prog W = .ok (.tuple #[.agg #[], .bool false]) W := by kernel_rfl
theorem asThis_Meet (x : Value) (W : World) : (Instr.typeAssert (.iface 108 x) 72 95 true).run Tryz.prog W = .ok (.tuple #[.agg #[], .bool false]) W := by kernel_rfl
theorem asThis_Except (x : Value) (W : World) : (Instr.typeAssert (.iface 111 x) 72 95 true).run Tryz.prog W = .ok (.tuple #[.agg #[], .bool false]) W := by kernel_rfl
theorem asComputed_hit (x : Value) (W : World) : (Instr.typeAssert (.iface 98 x) 72 98 true).run Tryz.prog W = .ok (.tuple #[x, .bool true]) W := by kernel_rfl
theorem asComputed_This (x : Value) (W : World) : (Instr.typeAssert (.iface 95 x) 72 98 true).run Tryz.prog W = .ok (.tuple #[.agg #[.string ⟨#[]⟩], .bool false]) W := by kernel_rfl
theorem asComputed_Arrow (x : Value) (W : World) : (Instr.typeAssert (.iface 101 x) 72 98 true).run Tryz.prog W = .ok (.tuple #[.agg #[.string ⟨#[]⟩], .bool false]) W := by kernel_rfl
theorem asComputed_Union (x : Value) (W : World) : (Instr.typeAssert (.iface 105 x) 72 98 true).run Tryz.prog W = .ok (.tuple #[.agg #[.string ⟨#[]⟩], .bool false]) W := by kernel_rfl
theorem asComputed_Meet (x : Value) (W : World) : (Instr.typeAssert (.iface 108 x) 72 98 true).run Tryz.prog W = .ok (.tuple #[.agg #[.string ⟨#[]⟩], .bool false]) W := by kernel_rfl
theorem asComputed_Except (x : Value) (W : World) : (Instr.typeAssert (.iface 111 x) 72 98 true).run Tryz.prog W = .ok (.tuple #[.agg #[.string ⟨#[]⟩], .bool false]) W := by kernel_rfl
theorem asArrow_hit (x : Value) (W : World) : (Instr.typeAssert (.iface 101 x) 72 101 true).run Tryz.prog W = .ok (.tuple #[x, .bool true]) W := by kernel_rfl
theorem asArrow_This (x : Value) (W : World) : (Instr.typeAssert (.iface 95 x) 72 101 true).run Tryz.prog W = .ok (.tuple #[.agg #[.string ⟨#[]⟩, .string ⟨#[]⟩], .bool false]) W := by kernel_rfl
theorem asArrow_Computed (x : Value) (W : World) : (Instr.typeAssert (.iface 98 x) 72 101 true).run Tryz.prog W = .ok (.tuple #[.agg #[.string ⟨#[]⟩, .string ⟨#[]⟩], .bool false]) W := by kernel_rfl
theorem asArrow_Union (x : Value) (W : World) : (Instr.typeAssert (.iface 105 x) 72 101 true).run Tryz.prog W = .ok (.tuple #[.agg #[.string ⟨#[]⟩, .string ⟨#[]⟩], .bool false]) W := by kernel_rfl
theorem asArrow_Meet (x : Value) (W : World) : (Instr.typeAssert (.iface 108 x) 72 101 true).run Tryz.prog W = .ok (.tuple #[.agg #[.string ⟨#[]⟩, .string ⟨#[]⟩], .bool false]) W := by kernel_rfl
theorem asArrow_Except (x : Value) (W : World) : (Instr.typeAssert (.iface 111 x) 72 101 true).run Tryz.prog W = .ok (.tuple #[.agg #[.string ⟨#[]⟩, .string ⟨#[]⟩], .bool false]) W := by kernel_rfl
theorem asUnion_hit (x : Value) (W : World) : (Instr.typeAssert (.iface 105 x) 72 105 true).run Tryz.prog W = .ok (.tuple #[x, .bool true]) W := by kernel_rfl
theorem asUnion_This (x : Value) (W : World) : (Instr.typeAssert (.iface 95 x) 72 105 true).run Tryz.prog W = .ok (.tuple #[.agg #[.slice none 0 0], .bool false]) W := by kernel_rfl
theorem asUnion_Computed (x : Value) (W : World) : (Instr.typeAssert (.iface 98 x) 72 105 true).run Tryz.prog W = .ok (.tuple #[.agg #[.slice none 0 0], .bool false]) W := by kernel_rfl
theorem asUnion_Arrow (x : Value) (W : World) : (Instr.typeAssert (.iface 101 x) 72 105 true).run Tryz.prog W = .ok (.tuple #[.agg #[.slice none 0 0], .bool false]) W := by kernel_rfl
theorem asUnion_Meet (x : Value) (W : World) : (Instr.typeAssert (.iface 108 x) 72 105 true).run Tryz.prog W = .ok (.tuple #[.agg #[.slice none 0 0], .bool false]) W := by kernel_rfl
theorem asUnion_Except (x : Value) (W : World) : (Instr.typeAssert (.iface 111 x) 72 105 true).run Tryz.prog W = .ok (.tuple #[.agg #[.slice none 0 0], .bool false]) W := by kernel_rfl
theorem asMeet_hit (x : Value) (W : World) : (Instr.typeAssert (.iface 108 x) 72 108 true).run Tryz.prog W = .ok (.tuple #[x, .bool true]) W := by kernel_rfl
theorem asMeet_This (x : Value) (W : World) : (Instr.typeAssert (.iface 95 x) 72 108 true).run Tryz.prog W = .ok (.tuple #[.agg #[.slice none 0 0], .bool false]) W := by kernel_rfl
theorem asMeet_Computed (x : Value) (W : World) : (Instr.typeAssert (.iface 98 x) 72 108 true).run Tryz.prog W = .ok (.tuple #[.agg #[.slice none 0 0], .bool false]) W := by kernel_rfl
theorem asMeet_Arrow (x : Value) (W : World) : (Instr.typeAssert (.iface 101 x) 72 108 true).run Tryz.prog W = .ok (.tuple #[.agg #[.slice none 0 0], .bool false]) W := by kernel_rfl
theorem asMeet_Union (x : Value) (W : World) : (Instr.typeAssert (.iface 105 x) 72 108 true).run Tryz.prog W = .ok (.tuple #[.agg #[.slice none 0 0], .bool false]) W := by kernel_rfl
theorem asMeet_Except (x : Value) (W : World) : (Instr.typeAssert (.iface 111 x) 72 108 true).run Tryz.prog W = .ok (.tuple #[.agg #[.slice none 0 0], .bool false]) W := by kernel_rfl
theorem asExcept_hit (x : Value) (W : World) : (Instr.typeAssert (.iface 111 x) 72 111 true).run Tryz.prog W = .ok (.tuple #[x, .bool true]) W := by kernel_rfl
theorem asExcept_This (x : Value) (W : World) : (Instr.typeAssert (.iface 95 x) 72 111 true).run Tryz.prog W = .ok (.tuple #[.agg #[.nilIface, .nilIface], .bool false]) W := by kernel_rfl
theorem asExcept_Computed (x : Value) (W : World) : (Instr.typeAssert (.iface 98 x) 72 111 true).run Tryz.prog W = .ok (.tuple #[.agg #[.nilIface, .nilIface], .bool false]) W := by kernel_rfl
theorem asExcept_Arrow (x : Value) (W : World) : (Instr.typeAssert (.iface 101 x) 72 111 true).run Tryz.prog W = .ok (.tuple #[.agg #[.nilIface, .nilIface], .bool false]) W := by kernel_rfl
theorem asExcept_Union (x : Value) (W : World) : (Instr.typeAssert (.iface 105 x) 72 111 true).run Tryz.prog W = .ok (.tuple #[.agg #[.nilIface, .nilIface], .bool false]) W := by kernel_rfl
theorem asExcept_Meet (x : Value) (W : World) : (Instr.typeAssert (.iface 108 x) 72 111 true).run Tryz.prog W = .ok (.tuple #[.agg #[.nilIface, .nilIface], .bool false]) W := by kernel_rfl
theorem asArrow_one (x : Value) (W : World) : (Instr.typeAssert (.iface 101 x) 72 101 false).run Tryz.prog W = .ok x W := by kernel_rfl
end Tr
end Go.Proofs.YtdlfbikpniionaaGreatDoor
