/-
  A region that draws its order, whose operations read and whose callees make new memory alone: one walk, in the order of the text, over every world in which the cells that are read hold what they held.
-/
import Derived.Test.YtbphmaoomnocmaaDoorHeld
import Derived.Deep.Quiet
namespace Go.Proofs.YtbphmaoomnocmaaDoor
open Go.RowKit
namespace Who

theorem wp_region_class {P : Program} {C : World → Prop} {id : Nat} {Q : Exit → Act → World → Prop} {a : Act} {w : World} {l : List Oper} (hm : P.follows .mixedOrders = true) (hB : Region.lexB .any l.toArray = true) (hC : C w.drew)
    (h : wpQuiet P l.toArray C (fun a' => ∀ w', C w' → Q .normal a' w') l a) : (Code.region id l.toArray true).wp P Q a w :=
  wp_region_quiet (C := C) hm hB hC (by simpa using h)
theorem quiet_of {P : Program} {C : World → Prop} {o : Oper} {a : Act} {K : Act → Prop} {v : Value} (h : ∀ x, C x → o.quietAt P a C x v) (hk : K (a.put o.dst v)) : o.quiet P a C K := ⟨v, h, hk⟩
end Who
end Go.Proofs.YtbphmaoomnocmaaDoor
