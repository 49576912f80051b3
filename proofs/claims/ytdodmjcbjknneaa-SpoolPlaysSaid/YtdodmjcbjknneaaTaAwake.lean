/-
  Layer 12: the document's example, walked; what the statements need of a tray in the blocks that the call made.
-/
import Derived.Test.YtdodmjcbjknneaaTaLose
import Derived.Lib.SmallJoins
namespace Go.Proofs.Ytdodmjcbjknneaa
set_option maxRecDepth 100000
open Go.RowKit
namespace Ta
open Knot (Turns NewRow)
open Tr (IsElem append_rows wp_rows own_turn own_below own_slice own_open addp)
section
variable {w x y : World} {p n : Nat} {t : Tray (List UInt8)} {F : Nat → Prop}
/-- A tray in blocks that were made since w. -/
structure At (w x : World) (p n : Nat) (t : Tray (List UInt8)) : Prop where
  is : IsT x p n t (Made w x)
  below : Below w.heap.size w x
theorem At.made (h : Below w.heap.size w x) (hi : IsT y p n t (Made x y)) (hb : Below x.heap.size x y) : At w y p n t :=
  ⟨hi.mono (fun _ hk => ⟨Nat.le_trans h.size hk.1, hk.2⟩) fun _ hk => hk.2, h.trans (hb.mono h.size)⟩
theorem At.step {u : World} {t' : Tray (List UInt8)} (h : At w x p n t) (hb : Below x.heap.size x u) (ht : Turns (Made w x) u y) (hi : IsT y p n t' (Grow (Made w x) u y)) : At w y p n t' :=
  ⟨hi.mono (fun _ hk => hk.elim (fun hk => ⟨hk.1, Nat.lt_of_lt_of_le hk.2 (Nat.le_trans hb.size ht.size)⟩) fun hk => ⟨Nat.le_trans h.below.size (Nat.le_trans hb.size hk.1), hk.2⟩) fun _ hk => hk.2,
    (h.below.trans (hb.mono h.below.size)).trans (ht.below (Nat.le_trans h.below.size hb.size) fun _ hk => hk.1)⟩
theorem At.on (h : At w x p n t) (hb : Below x.heap.size x y) : At w y p n t :=
  ⟨(h.is.below hb).mono (fun _ hk => ⟨hk.1, Nat.lt_of_lt_of_le hk.2 hb.size⟩) fun _ hk => hk.2, h.below.trans (hb.mono h.below.size)⟩
/-- A byte in a list of its own. -/
theorem fresh_byte (low : ∀ k, F k → k < w.heap.size) (u : UInt8) : Stay F (w.alloc (.cells #[.int .u8 (u.toNat : Nat)] 5 (1, 2))) fun x => IsBytes x (.slice (some ⟨w.heap.size, 0, none⟩) 1 1) [u] := fun x hx => by
  have hh := hx.heap (heap_alloc_new w _) fun h => by have := low _ h; omega
  refine ⟨_, 1, rfl, Nat.le_refl _, by decide, fun _ => ⟨w.heap.size, 0, rfl, fun j v hj => ?_⟩⟩
  rw [Go.Joins.cell_of_block hh, Nat.zero_add]
  simpa [Lib.byteCells] using hj
/-- A list of one byte is written. -/
theorem put_one (k : Int) (u : UInt8) (z : Int) (hz : ((u.toNat : Nat) : Int) = z) (h : At w x p n t) (hc : t.cache.length ≤ 100000) :
    Calls Try.prog 30 #[ptr p, .int .i64 k, .slice (some ⟨x.heap.size, 0, none⟩) 1 1] (x.alloc (.cells #[.int .u8 z] 5 (1, 2))) fun e y => e = .returned (.int .i64 (t.write n k [u]).2) ∧ At w y p n (t.write n k [u]).1 := by
  subst hz
  have hal : Below x.heap.size x (x.alloc (.cells #[.int .u8 ((u.toNat : Nat) : Int)] 5 (1, 2))) := (Below.refl _ _).alloc (Nat.le_refl _) _
  refine (write_any k _ [u] (h.is.below hal) (fresh_byte (fun k hk => hk.2) u) hc).mono ?_
  rintro e y ⟨rfl, ht, hi⟩
  exact ⟨rfl, h.step hal ht hi⟩
theorem conv_byte (z : Int) (W : World) : (convert 22 22 (.slice (some ⟨W.heap.size, 0, none⟩) 1 1)).run Try.prog (W.alloc (.cells #[.int .u8 z] 5)) = .ok (.slice (some ⟨W.heap.size, 0, none⟩) 1 1) (W.alloc (.cells #[.int .u8 z] 5 (1, 2))) :=
  Go.Joins.run_convert_bytes_const_at (P := Try.prog) W 22 5 #[.int .u8 z] 1 1 W.heap.size rfl Try.underlying22 Try.underlying5
theorem flush_at (h : At w x p n t) (hc : t.cache.length ≤ 100000) : Calls Try.prog 50 #[ptr p] x fun e y => e = .returned (.int .i64 (if t.left = 0 then 20 else 0)) ∧ At w y p n t.flush := by
  refine (flush_any h.is hc).mono ?_
  rintro e y ⟨rfl, ht, hi⟩
  exact ⟨rfl, h.step (Below.refl _ _) ht hi.grow⟩
theorem lose_at (h : At w x p n t) {v : Value} {c : List Bool} (hv : IsFlags x v c) (hc : t.cache.length ≤ 100000) : Calls Try.prog 23 #[ptr p, v] x fun e y => ∃ q, e = .returned (ptr q) ∧ At w y q n (t.lose c) ∧ Below x.heap.size x y := by
  refine (lose_any h.is v c hv hc).mono ?_
  rintro e y ⟨q, rfl, -, hb, hi⟩
  exact ⟨q, rfl, At.made h.below hi hb, hb⟩
/-- Two choices in a list of their own. -/
theorem two_flags (a b : Bool) : IsFlags (w.alloc (.cells #[.bool a, .bool b] 4)) (.slice (some ⟨w.heap.size, 0, none⟩) 2 2) [a, b] := by
  refine ⟨_, 2, rfl, Nat.le_refl _, by decide, fun _ => ⟨w.heap.size, 0, rfl, fun j v hj => ?_⟩⟩
  rw [Lib.cell_of_heap (heap_alloc_new w _), Nat.zero_add]
  simpa using hj
/-- The first byte of a sector that was read. -/
theorem first_cell {g : Nat} {b : List UInt8} {u : UInt8} (h : x.heap[g]? = some (.cells (sec b) tSe (0, 0))) (hb : b[0]? = some u) : x.cell? ⟨g, 0, none⟩ = some (.int .u8 (u.toNat : Nat)) := by
  rw [Lib.cell_of_heap h]
  simp only [sec, List.getElem?_toArray, Lib.byteCells, List.getElem?_map, hb, Option.map_some]
end

def exT : Tray (List UInt8) := ((((((Tray.write 8 Tray.fresh 1 [97]).1.flush).write 8 1 [98]).1).write 8 2 [99]).1).lose [false, true]
theorem ex_one : (exT.read nul 1)[0]? = some 97 := by decide +kernel
theorem ex_two : (exT.read nul 2)[0]? = some 99 := by decide +kernel

end Ta
end Go.Proofs.Ytdodmjcbjknneaa
