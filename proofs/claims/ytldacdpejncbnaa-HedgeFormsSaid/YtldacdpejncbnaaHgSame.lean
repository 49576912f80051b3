/-
  Layer 15: two lists of entries that are the same; what is awake.
-/
import Derived.Test.YtldacdpejncbnaaHgHed
import Derived.Test.YtldacdpejncbnaaHgRefD
import Derived.Laws.StructEq
namespace Go.Proofs.Ytldacdpejncbnaa
open Go.RowKit
namespace Hg
open Knot (Turns NewRow)
open Tr (IsElem own_turn own_below own_slice own_open walk_rows)
theorem de_same (k : ByteArray) (a : Int) (W : World) : (binOp .neq tDe (.agg #[.string k, .int .i64 a]) (.agg #[.string k, .int .i64 a])).run Try.prog W = .ok (.bool false) W := by
  go_simp
theorem en_same (k : ByteArray) (a : Int) (W : World) : (binOp .neq tEn (.agg #[.string k, .int .i64 a]) (.agg #[.string k, .int .i64 a])).run Try.prog W = .ok (.bool false) W := by
  go_simp
set_option maxHeartbeats 4000000 in
set_option maxRecDepth 100000 in
theorem same_any {w : World} {va vb : Value} {L : List Ent} (ha : Ro tEn w va L) (hb : Ro tDe w vb L) (hl : L.length ≤ 100000) :
    Calls Try.prog 19 #[va, vb] w fun e x => e = .returned (.bool true) ∧ Below w.heap.size w x := by
  obtain ⟨ao, cap, rfl⟩ := ha.slice
  obtain ⟨bo, cbp, rfl⟩ := hb.slice
  have HH := Lib.hid (And.intro ha hb)
  clear ha hb
  go_enter Try.func19, Try.ntmps19
  go_wp2_with fail
  go_loopw [13] (fun i wr => ∃ (j : Nat), j ≤ L.length ∧ i = .int .i64 (j : Int) ∧ Hid (Below w.heap.size w wr)) (fun i _ => L.length - (intOf i).toNat)
  case atStart => exact ⟨0, Nat.zero_le _, rfl, Lib.hid (Below.refl _ _)⟩
  case round =>
    obtain ⟨j, hj, rfl, HB⟩ := hrel
    by_cases hlt : j < L.length
    · obtain ⟨g, cp, he, -, q1, q2⟩ := (HH.out.1.on HB.out).at hlt
      obtain ⟨rfl, -, rfl⟩ := Value.slice.inj he
      obtain ⟨g2, cp2, he2, -, q3, q4⟩ := (HH.out.2.on HB.out).at hlt
      obtain ⟨rfl, -, rfl⟩ := Value.slice.inj he2
      have hi := idxE (g := g) (n := L.length) (cap := cap) hlt
      have hi2 := idxD (g := g2) (n := L.length) (cap := cbp) hlt
      obtain ⟨key, hkey⟩ : ∃ s, s = L[j].1 := ⟨_, rfl⟩
      obtain ⟨num, hnum⟩ : ∃ s, s = L[j].2 := ⟨_, rfl⟩
      rw [← hkey] at q1 q3
      rw [← hnum] at q2 q4
      have heq := de_same key num
      clear hkey hnum
      go_wp2_with fail
      go_quiet (fail)
      have HN := Lib.hid (below_drewN HB.out nq)
      go_wp2_with fail
      go_roundw
      case rel => exact ⟨j + 1, by omega, by go_num, HN⟩
      case measure => simp [intOf]; omega
    · go_wp2_with fail
      go_ret
      exact ⟨rfl, HB.out⟩
end Hg
end Go.Proofs.Ytldacdpejncbnaa
