/-
  Layer 6 (sigil): the document's Lex.
-/
import Derived.Test.YtbphmaoomnocmaaDoorSgF
namespace Go.Proofs.YtbphmaoomnocmaaDoor
open Go.RowKit
namespace Sg
open Tr (IsElem own_below own_slice own_open wp_rows walk_rows)
open Knot (Turns NewRow)

theorem owned_some {w : World} {B : Nat} {e : TypeId} {v : Value} {n : Nat} {xs : List Value} (h : w.ownsRow B e 1 v n xs) (hn : 1 ≤ n) : ∃ g cap, v = .slice (some ⟨g, 0, none⟩) n cap := by
  rcases h.2 with ⟨hv, h0⟩ | ⟨g, cap, cur, hv, _⟩
  · omega
  · exact ⟨g, cap, hv⟩
theorem runes_max : ∀ (k : Nat) (l : List UInt8), l.length ≤ k → ∀ t, Gly.runes l = some t → ∀ r ∈ t, r ≤ 1114111
  | k, l, hk, t, ht, r, hr => by
    by_cases h : l = []
    · subst h; rw [Gly.runes_nil] at ht; cases ht; simp at hr
    · have hl := Gly.drop_lt h
      obtain ⟨k, rfl⟩ : ∃ j, k = j + 1 := ⟨k - 1, by omega⟩
      rw [Gly.runes_step h (Gly.runes_good ht h)] at ht
      cases hu : Gly.runes (l.drop (Gly.dec l).2) with
      | none => rw [hu] at ht; cases ht
      | some u =>
        rw [hu] at ht; cases ht
        rcases List.mem_cons.1 hr with rfl | hr
        · exact Gly.dec_max l h
        · exact runes_max k _ (by omega) u hu r hr

set_option maxRecDepth 100000 in
theorem rtoks_elem : ∃ i z b, IsElem Tryd.prog 60 107 i z 4 b ∧ b ≤ 100 := by
  refine ⟨_, _, _, ⟨by kernel_rfl, rfl, rfl, by kernel_rfl, rfl, by kernel_rfl, by omega⟩, ?_⟩
  exact of_decide_eq_true (by kernel_rfl)
/-- What the document's Lex answers. -/
def RLexOut (a : Int × (Nat × Nat) × List Tok) (w : World) (e : Ending) (w' : World) : Prop :=
  ∃ v, e = .returned (.tuple #[v, .int .i64 (a.2.1.1 : Nat), .int .i64 (a.2.1.2 : Nat), .int .i64 a.1]) ∧ w'.ownsRow w.heap.size 107 4 v a.2.2.length (toksC a.2.2) ∧ Below w.heap.size w w'

theorem has_blank (r : Nat) : has [9, 10, 13, 32, 12288] r = blank r := by
  rw [Bool.eq_iff_iff]; simp [has, blank]
theorem has_sign (r : Nat) : has signs r = sign r := rfl

/-- What the document's Lex keeps in memory. -/
structure RM (w : World) (g B : Nat) (q : List Nat) (v : Value) (acc : List Tok) (x : World) : Prop where
  isl : IsL x g 0 q
  below : Below w.heap.size w x
  own : x.ownsRow B 107 4 v acc.length (toksC acc)
  lt : g < B
  low : w.heap.size ≤ B
  size : B ≤ x.heap.size
section
variable {w : World} {g B : Nat} {q : List Nat} {v : Value} {acc : List Tok} {x y : World}
theorem RM.on (h : RM w g B q v acc x) (hb : Below x.heap.size x y) : RM w g B q v acc y :=
  ⟨h.isl.on hb, h.below.trans (hb.mono (Nat.le_trans h.low h.size)), own_below h.own hb, h.lt, h.low, Nat.le_trans h.size hb.size⟩
theorem RM.set (h : RM w g B q v acc x) {a : Addr} (ha : x.heap.size ≤ a.block) (hb : Below x.heap.size x y) (u : Value) : RM w g B q v acc (y.setCell a u) := h.on (hb.setCell ha u)
theorem RM.grow (h : RM w g B q v acc x) (hb : Below B x y) {v' : Value} {t : Tok} (ho : y.ownsRow B 107 4 v' (acc.length + 1) (toksC acc ++ tokC t)) : RM w g B q v' (acc ++ [t]) y :=
  ⟨⟨by have := hb.size; have := h.isl.1; omega, fun j r hj => (hb.cell (p := ⟨g, 0 + j, none⟩) h.lt).trans (h.isl.2 j r hj)⟩, h.below.trans (hb.mono h.low), by rw [toksC_snoc, List.length_append]; exact ho, h.lt, h.low, Nat.le_trans h.size hb.size⟩
end

set_option maxHeartbeats 1000000 in
theorem place_nil (ao : Option Addr) (n cap : Nat) (w : World) :
    Calls Tryd.prog 45 #[.slice ao n cap, .int .i64 0] w fun e w' => e = .returned (.tuple #[.int .i64 1, .int .i64 1]) ∧ w = w' := by
  go_enter Tryd.func45, Tryd.ntmps45
  go_wp2
  go_loop [6, 7, 8] (fun a b i => i = .int .i64 0 ∧ a = .int .i64 1 ∧ b = .int .i64 1) (fun _ _ i => 0 - (intOf i).toNat)
  case atStart => exact ⟨rfl, rfl, rfl⟩
  case round =>
    obtain ⟨rfl, rfl, rfl⟩ := hrel
    go_wp2
    go_ret2
    exact ⟨rfl, rfl⟩

theorem build5 (W : World) : (Instr.buildSlice 99 5 #[(0, .int .i64 9), (1, .int .i64 10), (2, .int .i64 13), (3, .int .i64 32), (4, .int .i64 12288)]).run Tryd.prog W = .ok (.slice (some ⟨W.heap.size, 0, none⟩) 5 5) (W.alloc (.cells #[.int .i64 9, .int .i64 10, .int .i64 13, .int .i64 32, .int .i64 12288] 3)) := by kernel_rfl
theorem isl5 (W : World) : IsL (W.alloc (.cells #[.int .i64 9, .int .i64 10, .int .i64 13, .int .i64 32, .int .i64 12288] 3)) W.heap.size 0 [9, 10, 13, 32, 12288] := by
  refine ⟨by simp, fun j r hj => ?_⟩
  rw [Nat.zero_add, Lib.cell_of_heap (heap_alloc_new W _)]
  match j, hj with
  | 0, hj => simp at hj; subst hj; rfl
  | 1, hj => simp at hj; subst hj; rfl
  | 2, hj => simp at hj; subst hj; rfl
  | 3, hj => simp at hj; subst hj; rfl
  | 4, hj => simp at hj; subst hj; rfl
  | j + 5, hj => simp at hj
theorem blank_call (r : Nat) (W : World) : Calls Tryd.prog 44 #[.int .i64 (r : Nat), .slice (some ⟨W.heap.size, 0, none⟩) 5 5] (W.alloc (.cells #[.int .i64 9, .int .i64 10, .int .i64 13, .int .i64 32, .int .i64 12288] 3)) fun e w' => e = .returned (.bool (blank r)) ∧ (W.alloc (.cells #[.int .i64 9, .int .i64 10, .int .i64 13, .int .i64 32, .int .i64 12288] 3)) = w' := by
  have h := among_any r [9, 10, 13, 32, 12288] W.heap.size 0 5 _ (isl5 W) (by decide)
  rw [has_blank] at h
  exact h

set_option maxHeartbeats 2000000 in
set_option maxRecDepth 100000 in
theorem rlex_none (s : ByteArray) (w : World) (hs : s.size ≤ 4000000) (hq : Gly.runes s.data.toList = none) :
    Calls Tryd.prog 21 #[.string s] w (RLexOut (ans none) w) := by
  have hr := fun W => Ref.runes_any s W hs
  rw [hq] at hr
  have HR := Lib.hid hr
  clear hr hq
  go_enter Tryd.func21, Tryd.ntmps21
  go_wp2_with (go_at_call 43; refine (HR.out _).mono ?_; rintro e w1 ⟨rfl, b1⟩)
  refine bodyPost_ret (v := .tuple #[.slice none 0 0, .int .i64 0, .int .i64 0, .int .i64 4]) (by simp [results, Tryd.results21, go_sem]) rfl ⟨.slice none 0 0, rfl, World.ownsRow_nil _ _ _ _, b1⟩

set_option maxHeartbeats 2000000 in
set_option maxRecDepth 100000 in
theorem rlex_full (s : ByteArray) (w : World) (hs : s.size ≤ 4000000) (q : List Nat) (hq : Gly.runes s.data.toList = some q) (hl : 3000 < q.length) :
    Calls Tryd.prog 21 #[.string s] w (RLexOut (ans (some q)) w) := by
  have hr := fun W => Ref.runes_any s W hs
  rw [hq] at hr
  rw [ans_long hl]
  have hlt : decide (3000 < (q.length : Int)) = true := by simp; omega
  have HR := Lib.hid hr
  clear hr hq
  go_enter Tryd.func21, Tryd.ntmps21
  go_wp2_with (go_at_call 43; refine (HR.out _).mono ?_; rintro e w1 ⟨v1, rfl, o1, b1⟩; obtain ⟨ao, cap, rfl⟩ := own_slice o1)
  refine bodyPost_ret (v := .tuple #[.slice none 0 0, .int .i64 0, .int .i64 0, .int .i64 3]) (by simp [results, Tryd.results21, go_sem]) rfl ⟨.slice none 0 0, rfl, World.ownsRow_nil _ _ _ _, b1⟩

set_option maxHeartbeats 2000000 in
set_option maxRecDepth 100000 in
theorem rlex_empty (s : ByteArray) (w : World) (hs : s.size ≤ 4000000) (hq : Gly.runes s.data.toList = some []) :
    Calls Tryd.prog 21 #[.string s] w (RLexOut (ans (some [])) w) := by
  have hr := fun W => Ref.runes_any s W hs
  rw [hq] at hr
  rw [ans_ok (by simp) (by rw [lex_nil]), lex_nil]
  have HR := Lib.hid hr
  clear hr hq
  go_enter Tryd.func21, Tryd.ntmps21
  go_wp2_with (go_at_call 43; refine (HR.out _).mono ?_; rintro e w1 ⟨v1, rfl, o1, b1⟩; obtain ⟨ao, cap, rfl⟩ := own_slice o1)
  go_loopw [8, 9] (fun v i wr => v = .slice none 0 0 ∧ i = .int .i64 0 ∧ wr = w1) (fun _ _ _ => 0)
  case atStart => exact ⟨rfl, rfl, rfl⟩
  case round =>
    obtain ⟨rfl, rfl, rfl⟩ := hrel
    go_wp2_with (go_at_call 45; refine (place_nil _ _ _ _).mono ?_; rintro e w' ⟨rfl, rfl⟩)
    refine bodyPost_ret (v := .tuple #[.slice none 0 0, .int .i64 1, .int .i64 1, .int .i64 0]) (by simp [results, Tryd.results21, go_sem]) rfl ⟨.slice none 0 0, rfl, World.ownsRow_nil _ _ _ _, b1⟩
end Sg
end Go.Proofs.YtbphmaoomnocmaaDoor
