/-
  TrayPowers, walked: with a power of so many steps just so many are done.
  TrayTwice, walked: two losses of power are the first one; a flush ahead of one lets its choice not matter.
  Layer 12, TrayKeeps: its notes of what was kept and of what lies in the cache, and its list of yes.
-/
import Derived.Test.YtkfmmdiflbnhgaaTgC
namespace Go.Proofs.Ytkfmmdiflbnhgaa
set_option maxRecDepth 100000
open Go.RowKit
namespace Ta
open Knot (Turns NewRow)
section
variable {w x y : World} {p n : Nat} {t : Tray (List UInt8)} {F : Nat → Prop}
theorem power_at (h : At w x p n t) (z : Int) : Calls Try.prog 26 #[ptr p, .int .i64 z] x fun e y => e = .returned (.int .i64 (if 0 ≤ z ∧ z ≤ 1099511627776 then 0 else 1)) ∧ At w y p n (if 0 ≤ z ∧ z ≤ 1099511627776 then t.power z else t) := by
  refine (power_any z h.is).mono ?_
  rintro e y ⟨rfl, ht, hi⟩
  exact ⟨rfl, h.step (Below.refl _ _) (ht.mono fun _ _ e => by rw [e]; exact h.is.fp) hi.grow⟩
theorem read_at (h : At w x p n t) (k : Int) (h0 : 0 ≤ k) (h1 : k < n) : Calls Try.prog 33 #[ptr p, .int .i64 k] x fun e y => e = .returned (.tuple #[.slice (some ⟨x.heap.size, 0, none⟩) 128 128, .int .i64 0]) ∧ At w y p n t ∧ y.heap[x.heap.size]? = some (.cells (sec (t.read nul k)) tSe (0, 0)) ∧ Below x.heap.size x y := by
  refine (tread_any k h.is h0 h1).mono ?_
  rintro e y ⟨rfl, hx, hb⟩
  exact ⟨rfl, h.on hb, hx, hb⟩
theorem acts_len {v : Value} {l : List Act} (h : IsActs w v l) : ∃ ao cap, v = .slice ao l.length cap ∧ l.length ≤ 9223372036854775807 := by
  obtain ⟨ao, cap, rfl, h1, h2, -⟩ := h
  exact ⟨ao, cap, rfl, Nat.le_trans h1 (Nat.le_trans h2 (by decide))⟩
end
/-- A step that was asked for: what a write or a flush makes of a power. -/
structure Step1 (t t' : Tray (List UInt8)) : Prop where
  left : t'.left = max (t.left - 1) 0
  dark : t'.dark = (decide (t.left = 0) || t.dark)
  few : t'.cache.length ≤ t.cache.length + 1
theorem write_step {t : Tray (List UInt8)} (h : 0 ≤ t.left) (k : Int) (h0 : 0 ≤ k) (h1 : k < 4) (u : UInt8) : (t.write 4 k [u]).2 = (if t.left = 0 then 20 else 0) ∧ Step1 t (t.write 4 k [u]).1 := by
  have e : t.write 4 k [u] = (t.put k (pad [u]), if t.left = 0 then 20 else 0) := by
    unfold Tray.write Tray.put
    rw [if_neg (by simp; omega)]
    by_cases h0 : t.left = 0
    · rw [if_pos h0, if_pos h0, if_pos h0]
    · rw [if_neg h0, if_neg h0, if_neg h0]
  rw [e]
  obtain ⟨h2, h3⟩ := Tray.put_steps h k (pad [u])
  refine ⟨rfl, h2, h3, ?_⟩
  unfold Tray.put
  split
  · show t.cache.length ≤ _
    omega
  · simp
theorem flush_step {t : Tray (List UInt8)} (h : 0 ≤ t.left) : Step1 t t.flush := by
  obtain ⟨h2, h3⟩ := Tray.flush_steps h
  refine ⟨h2, h3, ?_⟩
  unfold Tray.flush
  split
  · show t.cache.length ≤ _
    omega
  · simp

namespace LawT12P
end LawT12P
end Ta
end Go.Proofs.Ytkfmmdiflbnhgaa

namespace Go.Proofs.Ytkfmmdiflbnhgaa
set_option maxRecDepth 100000
open Go.RowKit
namespace Ta
open Knot (Turns NewRow)
section
variable {w x y u : World} {p n : Nat} {t : Tray (List UInt8)} {F : Nat → Prop}
theorem IsBytes.below {v : Value} {b : List UInt8} (h : IsBytes w v b) (hb : Below w.heap.size w x) : IsBytes x v b := Row.below h hb
theorem IsFlags.below {v : Value} {b : List Bool} (h : IsFlags w v b) (hb : Below w.heap.size w x) : IsFlags x v b := Row.below h hb
/-- What came in stays, whatever of the blocks that were made since turns. -/
theorem stay_arg {v : Value} {b : List UInt8} (h : IsBytes w v b) (hb : Below w.heap.size w u) (hF : ∀ k, F k → w.heap.size ≤ k) : Stay F u fun x => IsBytes x v b := fun _ hz =>
  h.below (hb.trans (hz.below hb.size hF))
theorem write_at (h : At w x p n t) (hu : Below x.heap.size x u) (k : Int) {v : Value} {b : List UInt8} (hv : IsBytes w v b) (hc : t.cache.length ≤ 100000) :
    Calls Try.prog 35 #[ptr p, .int .i64 k, v] u fun e y => e = .returned (.int .i64 (t.write n k b).2) ∧ At w y p n (t.write n k b).1 ∧ Turns (Made w x) u y := by
  refine (write_any k v b (h.is.below hu) (stay_arg hv (h.below.trans (hu.mono h.below.size)) fun _ hk => hk.1) hc).mono ?_
  rintro e y ⟨rfl, ht, hi⟩
  exact ⟨rfl, h.step hu ht hi, ht⟩
theorem flush_on (h : At w x p n t) (hu : Below x.heap.size x u) (hc : t.cache.length ≤ 100000) : Calls Try.prog 81 #[ptr p] u fun e y => e = .returned (.int .i64 (if t.left = 0 then 20 else 0)) ∧ At w y p n t.flush ∧ Turns (Made w x) u y := by
  refine (flush_any (h.is.below hu) hc).mono ?_
  rintro e y ⟨rfl, ht, hi⟩
  exact ⟨rfl, h.step hu ht hi.grow, ht⟩
/-- A box that was made since x stays, where the blocks from w to x turn. -/
theorem box_stays {g j : Nat} {c : Value} (hg : x.heap.size ≤ g) (hc : u.cell? ⟨g, j, none⟩ = some c) (ht : Turns (Made w x) u y) : y.cell? ⟨g, j, none⟩ = some c :=
  (ht.cell (p := ⟨g, j, none⟩) (World.block_lt_of_cell? u _ hc) fun h => by have := h.2; simp at this; omega).trans hc
/-- Bytes as a text. -/
def str (b : List UInt8) : ByteArray := ⟨b.toArray⟩
theorem sec_str {g : Nat} {b : List UInt8} {T : TypeId} (h : x.heap[g]? = some (.cells (sec b) T (0, 0))) (hb : b.length = 128) : (convert 22 9 (.slice (some ⟨g, 0, none⟩) 128 128)).run Try.prog x = .ok (.string (str b)) x := by
  have := run_convert_bytes_back (P := Try.prog) x 22 9 5 ⟨g, 0, none⟩ 128 b Try.underlying22 Try.underlying5 Try.underlying9 (fun j hj => by
    rw [Tr.addp, Lib.cell_of_heap h, Nat.zero_add]
    simp [sec, Lib.byteCells, hj])
  rw [hb] at this
  exact this
theorem read_len (h : IsT x p n t F) (k : Int) : (t.read nul k).length = 128 :=
  last_len (fun q hq => (List.mem_append.1 hq).elim (h.lenk q) fun hq => (h.lenc q hq).1) k rfl
/-- Without an end of power. -/
theorem write_left {t : Tray (List UInt8)} (h : t.left = -1) (k : Int) (b : List UInt8) : (t.write n k b).1.left = -1 := by
  unfold Tray.write
  split
  · exact h
  · rw [if_neg (by omega)]
    exact Tray.put_left h k _
theorem write_few (t : Tray (List UInt8)) (k : Int) (b : List UInt8) : (t.write n k b).1.cache.length ≤ t.cache.length + 1 := by
  unfold Tray.write
  split
  · exact Nat.le_succ _
  · split
    · exact Nat.le_succ _
    · show (t.put k (pad b)).cache.length ≤ _
      unfold Tray.put
      split
      · exact Nat.le_succ _
      · simp
theorem flush_few (t : Tray (List UInt8)) : t.flush.cache.length ≤ t.cache.length := by
  unfold Tray.flush
  split
  · exact Nat.le_refl _
  · exact Nat.zero_le _
end
namespace LawT12T
end LawT12T
end Ta
end Go.Proofs.Ytkfmmdiflbnhgaa

namespace Go.Proofs.Ytkfmmdiflbnhgaa
set_option maxRecDepth 100000
open Go.RowKit
namespace Ta
open Knot (Turns NewRow)
open Tr (IsElem append_rows walk_rows own_turn own_below own_slice own_open addp)
abbrev tBo : TypeId := 4
/-- Notes one behind the other. -/
def ncells (l : List (Int × List UInt8)) : List Value := l.flatMap fun p => [.int .i64 p.1, .string (str p.2)]
theorem ncells_append (l m : List (Int × List UInt8)) : ncells (l ++ m) = ncells l ++ ncells m := List.flatMap_append
theorem ncells_len (l : List (Int × List UInt8)) : (ncells l).length = l.length * 2 := by
  induction l with
  | nil => rfl
  | cons b l ih =>
    simp only [ncells, List.flatMap_cons, List.length_append, List.length_cons, List.length_nil] at ih ⊢
    rw [ih]
    omega
theorem ncells_at {l : List (Int × List UInt8)} {k : Nat} (hk : k < l.length) : (ncells l)[k * 2]? = some (.int .i64 l[k].1) ∧ (ncells l)[k * 2 + 1]? = some (.string (str l[k].2)) := by
  induction l generalizing k with
  | nil => simp at hk
  | cons b l ih =>
    show ([Value.int .i64 b.1, .string (str b.2)] ++ ncells l)[_]? = _ ∧ ([Value.int .i64 b.1, .string (str b.2)] ++ ncells l)[_]? = _
    cases k with
    | zero => exact ⟨rfl, rfl⟩
    | succ k =>
      have h2 := ih (k := k) (by simpa using hk)
      refine ⟨?_, ?_⟩
      · rw [List.getElem?_append_right (by simp; omega)]
        show (ncells l)[(k + 1) * 2 - 2]? = _
        rw [show (k + 1) * 2 - 2 = k * 2 by omega]
        exact h2.1
      · rw [List.getElem?_append_right (by simp; omega)]
        show (ncells l)[(k + 1) * 2 + 1 - 2]? = _
        rw [show (k + 1) * 2 + 1 - 2 = k * 2 + 1 by omega]
        exact h2.2
theorem one_notes (l : List (Int × List UInt8)) : ∀ u ∈ ncells l, u.oneCell' = true := fun u hu => by
  obtain ⟨b, -, hb⟩ := List.mem_flatMap.1 hu
  simp only [List.mem_cons, List.not_mem_nil, or_false] at hb
  rcases hb with rfl | rfl <;> rfl
section
variable {w x y z : World} {p : Nat} {t : Tray (List UInt8)} {F : Nat → Prop} {kv cv kv' cv' : Value} {ga len j B : Nat} {xs : List Value}
theorem own_base {B' n c : Nat} {e : TypeId} {v : Value} (h : x.ownsRow B e c v n xs) (hB : B' ≤ B) : x.ownsRow B' e c v n xs := by
  refine ⟨h.1, ?_⟩
  rcases h.2 with h0 | ⟨g, cap, cur, hv, hg, r⟩
  · exact .inl h0
  · exact .inr ⟨g, cap, cur, hv, Nat.le_trans hB hg, r⟩

theorem walk_none {P : Program} {ops : Array Oper} {rest : List Oper} {o : Oper} {a : Go.Act} {Q : Exit → Go.Act → World → Prop} {tt e : TypeId} {i : TypeInfo} {zz : Value} {sz by' n : Nat} {v : Value} (T : IsElem P tt e i zz sz by') (hgd : o.guard = none) (s q : Operand) (ho : o.op = .call { callee := .builtin .append, args := #[s, q], argTypes := #[tt, tt] })
    (hs : a.eval s = v) (hx : a.eval q = .slice none 0 0) (hown : w.ownsRow B e sz v n xs) (hz : n ≤ 100000000) (h : wpList P ops Q rest (a.put o.dst v) w) : wpList P ops Q (o :: rest) a w :=
  wpList_plain hgd fun _ hK => Tr.wp_none T s q ho hs hx hown hz (hK _ _ h)
theorem grown_refl (w : World) (r : Option Nat) : w.grownBy w r := ⟨rfl, rfl, rfl, Nat.le_refl _, fun _ _ _ => rfl⟩
/-- A list of yes and no that a call made. -/
theorem make_flags (n : Nat) (hn : n ≤ 100000) (W : World) : (Instr.makeSlice 50 (.int .i64 (n : Int)) (.int .i64 (n : Int))).run Try.prog W = .ok (.slice (some ⟨W.heap.size, 0, none⟩) n n) (W.alloc (.cells (List.replicate n (Value.bool false)).toArray tBo)) := by
  obtain ⟨i, b, T, hb⟩ : ∃ i b, IsElem Try.prog 50 tBo i (.bool false) 1 b ∧ b ≤ 8 := by
    refine ⟨_, _, ⟨by kernel_rfl, rfl, by kernel_rfl, by kernel_rfl, rfl, rfl, by omega⟩, ?_⟩
    exact of_decide_eq_true (by kernel_rfl)
  have hmk := run_make (P := Try.prog) W 50 tBo i (.bool false) T.under T.info T.zero .i64 .i64 (n : Int) (n : Int) (by omega) (Int.le_refl _) (by
    rw [T.bytes]
    have h1 : (b : Int) ≤ 8 := by omega
    have h2 : (b : Int) * n ≤ 8 * n := Int.mul_le_mul_of_nonneg_right h1 (by omega)
    omega) (by omega)
  rw [T.size, Int.toNat_natCast, Nat.mul_one] at hmk
  rw [hmk]
  have e : madeCells (Value.cells (.bool false)) n = (List.replicate n (Value.bool false)).toArray := by
    refine Array.toList_inj.1 ?_
    refine List.eq_replicate_iff.2 ⟨by simp [size_madeCells], fun u hu => ?_⟩
    simp only [madeCells, Array.toList_map, List.mem_map] at hu
    obtain ⟨k, -, rfl⟩ := hu
    have hs : (Value.cells (.bool false)).size = 1 := rfl
    rw [hs, Nat.mod_one]
    rfl
  rw [e]
theorem flags_row {n c : Nat} {l : List Bool} {g : Nat} (h : x.ownsRow B tBo 1 (.slice (some ⟨g, 0, none⟩) n c) n (l.map Value.bool)) (hl : l.length = n) : IsFlags x (.slice (some ⟨g, 0, none⟩) n c) l := by
  rcases h.2 with ⟨h0, -⟩ | ⟨g', cap, cur, hv, hb, hg, hn, hc, hs, ht⟩
  · cases h0
  · have hr : x.ownsRow B tBo 1 (.slice (some ⟨g, 0, none⟩) n c) n (l.map Value.bool) := h
    obtain ⟨rfl, -, rfl⟩ : g = g' ∧ n = n ∧ c = cap := by simpa using hv
    subst hl
    refine ⟨_, c, rfl, hn, hc, fun _ => ⟨g, 0, rfl, fun j u hj => ?_⟩⟩
    have hj' : j < l.length := by have := (List.getElem?_eq_some_iff.1 hj).1; simpa using this
    rw [Nat.zero_add, hr.cellAt j (by omega)]
    exact hj
theorem flags_none (x : World) : IsFlags x (.slice none 0 0) [] := ⟨none, 0, rfl, Nat.le_refl _, Nat.zero_le _, fun h => absurd rfl h⟩
/-- 128 noughts as a list. -/
theorem make_nul (W : World) : (Instr.makeSlice 22 (.int .i64 128) (.int .i64 128)).run Try.prog W = .ok (.slice (some ⟨W.heap.size, 0, none⟩) 128 128) (W.alloc (.cells (sec nul) 5)) := by kernel_rfl
end
end Ta
end Go.Proofs.Ytkfmmdiflbnhgaa
