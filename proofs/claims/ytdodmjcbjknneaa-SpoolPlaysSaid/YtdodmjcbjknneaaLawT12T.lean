/-
  TrayTwice, walked: two losses of power are the first one; a flush ahead of one lets its choice not matter.
-/
import Derived.Test.YtdodmjcbjknneaaLawT12P
namespace Go.Proofs.Ytdodmjcbjknneaa
set_option maxRecDepth 100000
open Go.RowKit
namespace Ta
open Knot (Turns NewRow)
section
variable {w x y u : World} {p n : Nat} {t : Tray (List UInt8)} {F : Nat → Prop}
theorem IsBytes.below {v : Value} {b : List UInt8} (h : IsBytes w v b) (hb : Below w.heap.size w x) : IsBytes x v b := Row.below h hb
theorem IsFlags.below {v : Value} {b : List Bool} (h : IsFlags w v b) (hb : Below w.heap.size w x) : IsFlags x v b := Row.below h hb
/-- What came in stays, whatever of the blocks that were made since turns. -/
theorem stay_arg {v : Value} {b : List UInt8} (h : IsBytes w v b) (hb : Below w.heap.size w u) (hF : ∀ k, F k → w.heap.size ≤ k) : Stay F u fun x => IsBytes x v b := fun _ hz =>
  h.below (hb.trans (hz.below hb.size hF))
theorem write_at (h : At w x p n t) (hu : Below x.heap.size x u) (k : Int) {v : Value} {b : List UInt8} (hv : IsBytes w v b) (hc : t.cache.length ≤ 100000) :
    Calls Try.prog 30 #[ptr p, .int .i64 k, v] u fun e y => e = .returned (.int .i64 (t.write n k b).2) ∧ At w y p n (t.write n k b).1 ∧ Turns (Made w x) u y := by
  refine (write_any k v b (h.is.below hu) (stay_arg hv (h.below.trans (hu.mono h.below.size)) fun _ hk => hk.1) hc).mono ?_
  rintro e y ⟨rfl, ht, hi⟩
  exact ⟨rfl, h.step hu ht hi, ht⟩
theorem flush_on (h : At w x p n t) (hu : Below x.heap.size x u) (hc : t.cache.length ≤ 100000) : Calls Try.prog 50 #[ptr p] u fun e y => e = .returned (.int .i64 (if t.left = 0 then 20 else 0)) ∧ At w y p n t.flush ∧ Turns (Made w x) u y := by
  refine (flush_any (h.is.below hu) hc).mono ?_
  rintro e y ⟨rfl, ht, hi⟩
  exact ⟨rfl, h.step hu ht hi.grow, ht⟩
/-- A box that was made since x stays, where the blocks from w to x turn. -/
theorem box_stays {g j : Nat} {c : Value} (hg : x.heap.size ≤ g) (hc : u.cell? ⟨g, j, none⟩ = some c) (ht : Turns (Made w x) u y) : y.cell? ⟨g, j, none⟩ = some c :=
  (ht.cell (p := ⟨g, j, none⟩) (World.block_lt_of_cell? u _ hc) fun h => by have := h.2; simp at this; omega).trans hc
/-- Bytes as a text. -/
def str (b : List UInt8) : ByteArray := ⟨b.toArray⟩
theorem sec_str {g : Nat} {b : List UInt8} {T : TypeId} (h : x.heap[g]? = some (.cells (sec b) T (0, 0))) (hb : b.length = 128) : (convert 22 9 (.slice (some ⟨g, 0, none⟩) 128 128)).run Try.prog x = .ok (.string (str b)) x := by
  have := run_convert_bytes_back (P := Try.prog) x 22 9 5 ⟨g, 0, none⟩ 128 b Try.underlying22 Try.underlying5 Try.underlying9 (fun j hj => by
    rw [Tr.addp, Lib.cell_of_heap h, Nat.zero_add]
    simp [sec, Lib.byteCells, hj])
  rw [hb] at this
  exact this
theorem read_len (h : IsT x p n t F) (k : Int) : (t.read nul k).length = 128 :=
  last_len (fun q hq => (List.mem_append.1 hq).elim (h.lenk q) fun hq => (h.lenc q hq).1) k rfl
/-- Without an end of power. -/
theorem write_left {t : Tray (List UInt8)} (h : t.left = -1) (k : Int) (b : List UInt8) : (t.write n k b).1.left = -1 := by
  unfold Tray.write
  split
  · exact h
  · rw [if_neg (by omega)]
    exact Tray.put_left h k _
theorem write_few (t : Tray (List UInt8)) (k : Int) (b : List UInt8) : (t.write n k b).1.cache.length ≤ t.cache.length + 1 := by
  unfold Tray.write
  split
  · exact Nat.le_succ _
  · split
    · exact Nat.le_succ _
    · show (t.put k (pad b)).cache.length ≤ _
      unfold Tray.put
      split
      · exact Nat.le_succ _
      · simp
theorem flush_few (t : Tray (List UInt8)) : t.flush.cache.length ≤ t.cache.length := by
  unfold Tray.flush
  split
  · exact Nat.le_refl _
  · exact Nat.zero_le _
end
namespace LawT12T
end LawT12T
end Ta
end Go.Proofs.Ytdodmjcbjknneaa
