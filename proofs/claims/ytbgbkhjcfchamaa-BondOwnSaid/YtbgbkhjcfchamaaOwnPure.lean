/-
  Plain mathematics under the statement BondOwn: a filter with some of a tuple's fields.
-/
import Derived.Test.YtbgbkhjcfchamaaBondB
namespace Go.Proofs.Ytbgbkhjcfchamaa
open Go.RowKit
namespace LawBOwn
open Bond
open Who (beq_bytes)

/-- A field that is chosen, or empty. -/
def pick (c : Bool) (t : ByteArray) : ByteArray := if c then t else ⟨#[]⟩
/-- Where it is chosen both have the same. -/
def agree (c : Bool) (u t : ByteArray) : Bool := !c || (u.toList == t.toList)

theorem agree_self (c : Bool) (t : ByteArray) : agree c t t = true := by simp [agree]
theorem pick_list (c : Bool) (t : ByteArray) : (pick c t).data.toList = if c then t.data.toList else [] := by
  cases c <;> rfl
theorem fit_pick (c : Bool) (u t : ByteArray) (h : t.data.toList ≠ []) : fit (pick c t) u = agree c u t := by
  rw [fit, agree, pick_list, beq_bytes]
  cases c with
  | false => simp
  | true => simp [h, eq_comm]
theorem fit_last (c : Bool) (u t : ByteArray) : (fit (pick c t) u && (!(c && decide (t.data.toList = [])) || decide (u.data.toList = []))) = agree c u t := by
  rw [fit, agree, pick_list, beq_bytes]
  cases c with
  | false => simp
  | true =>
    by_cases h : t.data.toList = []
    · simp [h]
    · simp [h, eq_comm]

theorem match_own (c0 c1 c2 c3 c4 c5 : Bool) (t0 t1 t2 t3 t4 t5 u0 u1 u2 u3 u4 u5 : ByteArray) (h0 : t0.data.toList ≠ []) (h1 : t1.data.toList ≠ []) (h2 : t2.data.toList ≠ []) (h3 : t3.data.toList ≠ []) (h4 : t4.data.toList ≠ []) :
    matchB (pick c0 t0) (pick c1 t1) (pick c2 t2) (pick c3 t3) (pick c4 t4) (pick c5 t5) (c5 && decide (t5.data.toList = [])) u0 u1 u2 u3 u4 u5 =
      (agree c0 u0 t0 && agree c1 u1 t1 && agree c2 u2 t2 && agree c3 u3 t3 && agree c4 u4 t4 && agree c5 u5 t5) := by
  rw [← fit_last c5 u5 t5, ← fit_pick c0 u0 t0 h0, ← fit_pick c1 u1 t1 h1, ← fit_pick c2 u2 t2 h2, ← fit_pick c3 u3 t3 h3, ← fit_pick c4 u4 t4 h4]
  simp only [matchB, allFit, pairsOf, List.all_cons, List.all_nil, Bool.and_true, Bool.and_assoc]

theorem match_none (u0 u1 u2 u3 u4 u5 : ByteArray) : matchB ⟨#[]⟩ ⟨#[]⟩ ⟨#[]⟩ ⟨#[]⟩ ⟨#[]⟩ ⟨#[]⟩ false u0 u1 u2 u3 u4 u5 = true := by
  simp [matchB, allFit, pairsOf, fit]

/-- The choices, by the number's bits. -/
theorem bits_own : ∀ n : Nat, n < 256 → ((bits BinOp.and IntKind.u8 (n : Int) 3 == 3) = true → (bits BinOp.and IntKind.u8 (n : Int) 1 != 0) = true) ∧
    ((bits BinOp.and IntKind.u8 (n : Int) 24 == 24) = true → (bits BinOp.and IntKind.u8 (n : Int) 8 != 0) = true) ∧
    ((bits BinOp.and IntKind.u8 (n : Int) 40 == 40) = true → (bits BinOp.and IntKind.u8 (n : Int) 8 != 0) = true) := by decide +kernel

/-- What is known of a good tuple's texts. -/
theorem good_parts {t0 t1 t2 t3 t4 t5 : List UInt8} (h : goodB (t0, t1, t2) (t3, t4, t5) = true) :
    Gly.nameB t0 = true ∧ Gly.idB t1 = true ∧ Gly.nameB t2 = true ∧ Gly.nameB t3 = true ∧ (t4 = [42] ∨ Gly.idB t4 = true) ∧ (t5 = [] ∨ Gly.nameB t5 = true) := by
  obtain ⟨h1, h2⟩ := good_iff.1 h
  obtain ⟨a, b, c⟩ := kind_set.1 h1
  obtain ⟨d, e, f⟩ := Who.kind_good h2
  exact ⟨a, b, c, d, e, f⟩
theorem id_ne {r : List UInt8} (h : Gly.idB r = true) : r ≠ [] := fun e => by rw [e, Who.id_nil] at h; cases h
theorem id_or_ne {r : List UInt8} (h : r = [42] ∨ Gly.idB r = true) : r ≠ [] := by
  rcases h with rfl | h
  · simp
  · exact id_ne h
theorem pick_or {P : List UInt8 → Prop} (c : Bool) (t : ByteArray) (h : P t.data.toList) : (pick c t).data.toList = [] ∨ P (pick c t).data.toList := by
  rw [pick_list]
  cases c
  · exact Or.inl rfl
  · exact Or.inr h
theorem pick_back {c d : Bool} {t s : ByteArray} (h : d = true → c = true) (hs : s.data.toList ≠ []) : (pick d t).data.toList = [] ∨ (pick c s).data.toList ≠ [] := by
  rw [pick_list, pick_list]
  cases d
  · exact Or.inl rfl
  · rw [h rfl]; exact Or.inr hs
end LawBOwn
end Go.Proofs.Ytbgbkhjcfchamaa
