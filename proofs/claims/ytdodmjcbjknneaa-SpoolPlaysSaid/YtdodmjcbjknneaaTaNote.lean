/-
  Layer 12, TrayKeeps: its notes of what was kept and of what lies in the cache, and its list of yes.
-/
import Derived.Test.YtdodmjcbjknneaaLawT12T
namespace Go.Proofs.Ytdodmjcbjknneaa
set_option maxRecDepth 100000
open Go.RowKit
namespace Ta
open Knot (Turns NewRow)
open Tr (IsElem append_rows walk_rows own_turn own_below own_slice own_open addp)
abbrev tBo : TypeId := 4
/-- Notes one behind the other. -/
def ncells (l : List (Int × List UInt8)) : List Value := l.flatMap fun p => [.int .i64 p.1, .string (str p.2)]
theorem ncells_append (l m : List (Int × List UInt8)) : ncells (l ++ m) = ncells l ++ ncells m := List.flatMap_append
theorem ncells_len (l : List (Int × List UInt8)) : (ncells l).length = l.length * 2 := by
  induction l with
  | nil => rfl
  | cons b l ih =>
    simp only [ncells, List.flatMap_cons, List.length_append, List.length_cons, List.length_nil] at ih ⊢
    rw [ih]
    omega
theorem ncells_at {l : List (Int × List UInt8)} {k : Nat} (hk : k < l.length) : (ncells l)[k * 2]? = some (.int .i64 l[k].1) ∧ (ncells l)[k * 2 + 1]? = some (.string (str l[k].2)) := by
  induction l generalizing k with
  | nil => simp at hk
  | cons b l ih =>
    show ([Value.int .i64 b.1, .string (str b.2)] ++ ncells l)[_]? = _ ∧ ([Value.int .i64 b.1, .string (str b.2)] ++ ncells l)[_]? = _
    cases k with
    | zero => exact ⟨rfl, rfl⟩
    | succ k =>
      have h2 := ih (k := k) (by simpa using hk)
      refine ⟨?_, ?_⟩
      · rw [List.getElem?_append_right (by simp; omega)]
        show (ncells l)[(k + 1) * 2 - 2]? = _
        rw [show (k + 1) * 2 - 2 = k * 2 by omega]
        exact h2.1
      · rw [List.getElem?_append_right (by simp; omega)]
        show (ncells l)[(k + 1) * 2 + 1 - 2]? = _
        rw [show (k + 1) * 2 + 1 - 2 = k * 2 + 1 by omega]
        exact h2.2
theorem one_notes (l : List (Int × List UInt8)) : ∀ u ∈ ncells l, u.oneCell' = true := fun u hu => by
  obtain ⟨b, -, hb⟩ := List.mem_flatMap.1 hu
  simp only [List.mem_cons, List.not_mem_nil, or_false] at hb
  rcases hb with rfl | rfl <;> rfl
section
variable {w x y z : World} {p : Nat} {t : Tray (List UInt8)} {F : Nat → Prop} {kv cv kv' cv' : Value} {ga len j B : Nat} {xs : List Value}
theorem own_base {B' n c : Nat} {e : TypeId} {v : Value} (h : x.ownsRow B e c v n xs) (hB : B' ≤ B) : x.ownsRow B' e c v n xs := by
  refine ⟨h.1, ?_⟩
  rcases h.2 with h0 | ⟨g, cap, cur, hv, hg, r⟩
  · exact .inl h0
  · exact .inr ⟨g, cap, cur, hv, Nat.le_trans hB hg, r⟩

theorem walk_none {P : Program} {ops : Array Oper} {rest : List Oper} {o : Oper} {a : Go.Act} {Q : Exit → Go.Act → World → Prop} {tt e : TypeId} {i : TypeInfo} {zz : Value} {sz by' n : Nat} {v : Value} (T : IsElem P tt e i zz sz by') (hgd : o.guard = none) (s q : Operand) (ho : o.op = .call { callee := .builtin .append, args := #[s, q], argTypes := #[tt, tt] })
    (hs : a.eval s = v) (hx : a.eval q = .slice none 0 0) (hown : w.ownsRow B e sz v n xs) (hz : n ≤ 100000000) (h : wpList P ops Q rest (a.put o.dst v) w) : wpList P ops Q (o :: rest) a w :=
  wpList_plain hgd fun _ hK => Tr.wp_none T s q ho hs hx hown hz (hK _ _ h)
theorem grown_refl (w : World) (r : Option Nat) : w.grownBy w r := ⟨rfl, rfl, rfl, Nat.le_refl _, fun _ _ _ => rfl⟩
/-- A list of yes and no that a call made. -/
theorem make_flags (n : Nat) (hn : n ≤ 100000) (W : World) : (Instr.makeSlice 50 (.int .i64 (n : Int)) (.int .i64 (n : Int))).run Try.prog W = .ok (.slice (some ⟨W.heap.size, 0, none⟩) n n) (W.alloc (.cells (List.replicate n (Value.bool false)).toArray tBo)) := by
  obtain ⟨i, b, T, hb⟩ : ∃ i b, IsElem Try.prog 50 tBo i (.bool false) 1 b ∧ b ≤ 8 := by
    refine ⟨_, _, ⟨by kernel_rfl, rfl, by kernel_rfl, by kernel_rfl, rfl, rfl, by omega⟩, ?_⟩
    exact of_decide_eq_true (by kernel_rfl)
  have hmk := run_make (P := Try.prog) W 50 tBo i (.bool false) T.under T.info T.zero .i64 .i64 (n : Int) (n : Int) (by omega) (Int.le_refl _) (by
    rw [T.bytes]
    have h1 : (b : Int) ≤ 8 := by omega
    have h2 : (b : Int) * n ≤ 8 * n := Int.mul_le_mul_of_nonneg_right h1 (by omega)
    omega) (by omega)
  rw [T.size, Int.toNat_natCast, Nat.mul_one] at hmk
  rw [hmk]
  have e : madeCells (Value.cells (.bool false)) n = (List.replicate n (Value.bool false)).toArray := by
    refine Array.toList_inj.1 ?_
    refine List.eq_replicate_iff.2 ⟨by simp [size_madeCells], fun u hu => ?_⟩
    simp only [madeCells, Array.toList_map, List.mem_map] at hu
    obtain ⟨k, -, rfl⟩ := hu
    have hs : (Value.cells (.bool false)).size = 1 := rfl
    rw [hs, Nat.mod_one]
    rfl
  rw [e]
theorem flags_row {n c : Nat} {l : List Bool} {g : Nat} (h : x.ownsRow B tBo 1 (.slice (some ⟨g, 0, none⟩) n c) n (l.map Value.bool)) (hl : l.length = n) : IsFlags x (.slice (some ⟨g, 0, none⟩) n c) l := by
  rcases h.2 with ⟨h0, -⟩ | ⟨g', cap, cur, hv, hb, hg, hn, hc, hs, ht⟩
  · cases h0
  · have hr : x.ownsRow B tBo 1 (.slice (some ⟨g, 0, none⟩) n c) n (l.map Value.bool) := h
    obtain ⟨rfl, -, rfl⟩ : g = g' ∧ n = n ∧ c = cap := by simpa using hv
    subst hl
    refine ⟨_, c, rfl, hn, hc, fun _ => ⟨g, 0, rfl, fun j u hj => ?_⟩⟩
    have hj' : j < l.length := by have := (List.getElem?_eq_some_iff.1 hj).1; simpa using this
    rw [Nat.zero_add, hr.cellAt j (by omega)]
    exact hj
theorem flags_none (x : World) : IsFlags x (.slice none 0 0) [] := ⟨none, 0, rfl, Nat.le_refl _, Nat.zero_le _, fun h => absurd rfl h⟩
/-- 128 noughts as a list. -/
theorem make_nul (W : World) : (Instr.makeSlice 22 (.int .i64 128) (.int .i64 128)).run Try.prog W = .ok (.slice (some ⟨W.heap.size, 0, none⟩) 128 128) (W.alloc (.cells (sec nul) 5)) := by kernel_rfl
end
end Ta
end Go.Proofs.Ytdodmjcbjknneaa
