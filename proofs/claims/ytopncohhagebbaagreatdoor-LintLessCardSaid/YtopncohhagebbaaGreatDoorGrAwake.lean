/-
  Layer 7 (grammar): the document's examples, which each statement asks first.
-/
import Derived.Test.YtopncohhagebbaaGreatDoorGrExpr
import Derived.Test.YtopncohhagebbaaGreatDoorMgPure
import Derived.Laws.StructEq
namespace Go.Proofs.YtopncohhagebbaaGreatDoor
open Go.RowKit
namespace Gr
open Knot (Turns NewRow)
open Tr (Nd none0 node4 own_slice Box4 IsNode size)
open Sg (Tok kt plV)

theorem runes_of {s : ByteArray} {q : List Nat} (h : s.data.toList = q.map Nat.toUInt8) (hq : ∀ r ∈ q, r < 128) : Gly.runes s.data.toList = some q := by
  have := Sg.runes_low s.data.toList (by
    intro b hb
    rw [h, List.mem_map] at hb
    obtain ⟨r, hr, rfl⟩ := hb
    have := hq r hr
    simp; omega)
  rw [this, h]
  congr 1
  clear this h
  induction q with
  | nil => rfl
  | cons r q ih =>
    have hr := hq r (by simp)
    rw [List.map_cons, List.map_cons, ih fun x hx => hq x (by simp [hx])]
    congr 1
    simp; omega
theorem exprA_of {s : ByteArray} {q : List Nat} (h : s.data.toList = q.map Nat.toUInt8) (hq : ∀ r ∈ q, r < 128) (hl : q.length ≤ 3000) : exprA s = answer zeroN union (ansF q) := by
  rw [exprA, runes_of h hq, ansF_eq hl]
def exAs : ByteArray := ⟨#[97, 32, 124, 32, 98, 32, 38, 32, 99, 32, 45, 32, 100]⟩
def exBs : ByteArray := ⟨#[97, 32, 45, 32, 98, 32, 45, 32, 99]⟩
theorem exA_is : exprA exAs = answer zeroN union (ansF exA) := exprA_of (by decide) (by decide) (by decide)
theorem exB_is : exprA exBs = answer zeroN union (ansF exB) := exprA_of (by decide) (by decide) (by decide)
theorem pl_17 (W : World) : (binOp .eql 73 (.agg #[.int .i64 1, .int .i64 7]) (.agg #[.int .i64 1, .int .i64 7])).run Tryz.prog W = .ok (.bool true) W := by
  go_simp
end Gr
end Go.Proofs.YtopncohhagebbaaGreatDoor
