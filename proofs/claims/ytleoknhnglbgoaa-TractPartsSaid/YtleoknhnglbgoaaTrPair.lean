/-
  Layer 5 (tract): a node of two nodes; two nodes in two boxes.
-/
import Derived.Test.YtleoknhnglbgoaaTrAwake
import Derived.Test.YtleoknhnglbgoaaTrRow
import Derived.Test.YtleoknhnglbgoaaTrRRefs
namespace Go.Proofs.Ytleoknhnglbgoaa
open Go.RowKit
namespace Tr

theorem pair_size (k : Int) (a b : Nd) : size (.mk k none0 none0 [a, b]) = 1 + size a + size b := by simp [size, sizes]; omega
theorem pair_depth (k : Int) (a b : Nd) : depth (.mk k none0 none0 [a, b]) = 1 + max (depth a) (depth b) := by simp [depth, depths]
theorem pair_good {k : Int} {a b : Nd} (hk : k = 4 ∨ k = 5) (ha : good a = true) (hb : good b = true) : good (.mk k none0 none0 [a, b]) = true := by
  rcases hk with rfl | rfl <;> simp [good, goods, fits, ha, hb, nil, none0]
theorem pair_refs {k : Int} (a b : Nd) (hk : k = 4 ∨ k = 5) : refs (.mk k none0 none0 [a, b]) false = refs a false ++ refs b false := by
  rcases hk with rfl | rfl <;> simp [refs, refss, flip]
theorem pair_direct {k : Int} (a b : Nd) (hk : k = 4 ∨ k = 5) : direct (.mk k none0 none0 [a, b]) true false = (direct a true false || direct b true false) := by
  rcases hk with rfl | rfl <;> simp [direct, directs, flip]
theorem err_zero {n : Nd} (hg : good n = true) (hs : size n ≤ 24) (hd : depth n ≤ 8) : errOf n = 0 := by
  rcases err_cases n with ⟨-, h⟩ | ⟨-, -, h⟩ | ⟨-, -, -, h⟩ | ⟨h, -⟩
  · rw [hg] at h; cases h
  · omega
  · omega
  · exact h

/-- Two nodes' boxes, that are the first new blocks. -/
def Two (w : World) (ka : Int) (a1 a2 : ByteArray) (sa : Value) (kb : Int) (b1 b2 : ByteArray) (sb : Value) (x : World) : Prop :=
  Below w.heap.size w x ∧ Box4 w.heap.size ka a1 a2 sa x ∧ Box4 (w.heap.size + 1) kb b1 b2 sb x
section
variable {w x y : World} {ka kb : Int} {a1 a2 b1 b2 : ByteArray} {sa sb : Value}
theorem Two.on (h : Two w ka a1 a2 sa kb b1 b2 sb x) (hb : Below x.heap.size x y) : Two w ka a1 a2 sa kb b1 b2 sb y :=
  ⟨h.1.trans (hb.mono h.1.size), h.2.1.on hb, h.2.2.on hb⟩
theorem Two.new : Two w ka a1 a2 sa kb b1 b2 sb ((w.alloc (.cells #[.int .i64 ka, .string a1, .string a2, sa] 24)).alloc (.cells #[.int .i64 kb, .string b1, .string b2, sb] 24)) := by
  refine ⟨(fresh_one w _).alloc (by simp) _, (Box4.new w _ _ _ _).on (fresh_one _ _), ?_⟩
  have := Box4.new (w.alloc (.cells #[.int .i64 ka, .string a1, .string a2, sa] 24)) kb b1 b2 sb
  rwa [World.size_alloc] at this
theorem Two.cells (h : Two w ka a1 a2 sa kb b1 b2 sb x) : (x.cell? ⟨w.heap.size, 0, none⟩ = some (.int .i64 ka) ∧ x.cell? ⟨w.heap.size, 1, none⟩ = some (.string a1) ∧ x.cell? ⟨w.heap.size, 2, none⟩ = some (.string a2) ∧ x.cell? ⟨w.heap.size, 3, none⟩ = some sa) ∧
    x.cell? ⟨w.heap.size + 1, 0, none⟩ = some (.int .i64 kb) ∧ x.cell? ⟨w.heap.size + 1, 1, none⟩ = some (.string b1) ∧ x.cell? ⟨w.heap.size + 1, 2, none⟩ = some (.string b2) ∧ x.cell? ⟨w.heap.size + 1, 3, none⟩ = some sb := ⟨h.2.1.cells, h.2.2.cells⟩
end

theorem refs_join {w : World} (ty : TypeId) {B C : Nat} {v u : Value} {la lb : List Rf} (h1 : RefsAt B w v la) (h2 : RefsAt C w u lb) (hB : B ≤ w.heap.size) (hz : la.length + lb.length ≤ 1000) :
    ∃ v' y, (Builtin.append_ #[35, 35] ty #[v, u]).run Try.prog w = .ok v' y ∧ RefsAt B y v' (la ++ lb) ∧ Below B w y := by
  obtain ⟨ti, tz, tb', T, hT⟩ := refs_elem
  rcases h2.2 with ⟨rfl, h0⟩ | ⟨g, cap, cur, rfl, hbg, hg, hnc, hcm, hcs, htake⟩
  · have hnil : lb = [] := List.eq_nil_of_length_eq_zero h0
    subst hnil
    refine ⟨v, w, append_none T ty h1 (by omega), ?_, Below.refl _ _⟩
    rw [List.append_nil]
    exact h1
  · have h2' : w.ownsRow C 41 3 (.slice (some ⟨g, 0, none⟩) lb.length cap) lb.length (cellsR lb) := h2
    obtain ⟨v', y, hr, ho, hgr, -⟩ := append_rows T ty h1 hB (cellsR_len lb) (h2'.cells (g := g) rfl) (cellsR_one lb) (by omega) (Nat.le_trans (Nat.mul_le_mul_left _ hT) (by omega)) (c := cap)
    refine ⟨v', y, hr, ?_, (Below.refl _ _).grown hgr hB fun k hk => (h1.lt k hk).1⟩
    rw [RefsAt, List.length_append, cellsR_append]
    exact ho
/-- For the walk: references behind references. -/
theorem walk_join {ops : Array Oper} {Q : Exit → Act → World → Prop} {o : Oper} {rest : List Oper} {a : Act} {w : World} (hgd : o.guard = none) (s x : Operand) (ho : o.op = .call { callee := .builtin .append, args := #[s, x], argTypes := #[35, 35] })
    {B C : Nat} {v u : Value} {la lb : List Rf} (hs : a.eval s = v) (hx : a.eval x = u) (h1 : RefsAt B w v la) (h2 : RefsAt C w u lb) (hB : B ≤ w.heap.size) (hz : la.length + lb.length ≤ 1000)
    (h : ∀ v' y, RefsAt B y v' (la ++ lb) → Below B w y → wpList Try.prog ops Q rest (a.put o.dst v') y) : wpList Try.prog ops Q (o :: rest) a w := by
  refine wpList_plain hgd fun K hK => ?_
  obtain ⟨v', y, hr, h3, h4⟩ := refs_join o.type h1 h2 hB hz
  unfold Oper.wp execOp
  simp only [ho, resolve, invoke, builtin, Sem.run_bind, Sem.run_pure, Result.andThen_ok, List.map_toArray, List.map_cons, List.map_nil, hs, hx, hr]
  exact hK _ _ (h v' y h3 h4)
end Tr
end Go.Proofs.Ytleoknhnglbgoaa
