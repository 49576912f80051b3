/-
  Layer 5 (tract): which function an expression's Node is.
-/
import Derived.Test.YtleoknhnglbgoaaTrMem
namespace Go.Proofs.Ytleoknhnglbgoaa
open Go.RowKit
namespace Tr

theorem meth_This (v : Value) (W : World) : (callMethod (.iface 71 v) "Node" #[]).run Try.prog W = .ok (.enter 70 #[v]) W := by kernel_rfl
theorem meth_Computed (v : Value) (W : World) : (callMethod (.iface 62 v) "Node" #[]).run Try.prog W = .ok (.enter 65 #[v]) W := by kernel_rfl
theorem meth_Arrow (v : Value) (W : World) : (callMethod (.iface 46 v) "Node" #[]).run Try.prog W = .ok (.enter 64 #[v]) W := by kernel_rfl
theorem meth_Union (v : Value) (W : World) : (callMethod (.iface 66 v) "Node" #[]).run Try.prog W = .ok (.enter 66 #[v]) W := by kernel_rfl
theorem meth_Meet (v : Value) (W : World) : (callMethod (.iface 67 v) "Node" #[]).run Try.prog W = .ok (.enter 68 #[v]) W := by kernel_rfl
theorem meth_Except (v : Value) (W : World) : (callMethod (.iface 69 v) "Node" #[]).run Try.prog W = .ok (.enter 69 #[v]) W := by kernel_rfl
end Tr
end Go.Proofs.Ytleoknhnglbgoaa
