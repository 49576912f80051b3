/-
  Layer 12: boxes of five cells; the document's New, step, Power.
-/
import Derived.Test.YtdodmjcbjknneaaRows
import Derived.Test.YtdodmjcbjknneaaTaPure
import Derived.WalkKit
import Derived.WalkSmall
import Derived.BigCall
import Derived.BigQuiet
import Derived.Deep.QuietTactic
import Derived.Lib.Hide
import Derived.Lib.UnsafeStr
import Derived.IntWalk
import Derived.Below
namespace Go.Proofs.Ytdodmjcbjknneaa
set_option maxRecDepth 100000
open Go.RowKit
namespace Ta

abbrev tTr : TypeId := 37
/-- The document's tray as a value: how many sectors; its two lists; how many steps are left; is it dark? -/
def trV (n : Int) (k c : Value) (l : Int) (d : Bool) : Value := .agg #[.int .i64 n, k, c, .int .i64 l, .bool d]
/-- All five cells of a box are stored. -/
def st5 (x : World) (R : Nat) (a b c d e : Value) : World := ((((x.setCell ⟨R, 0, none⟩ a).setCell ⟨R, 1, none⟩ b).setCell ⟨R, 2, none⟩ c).setCell ⟨R, 3, none⟩ d).setCell ⟨R, 4, none⟩ e
/-- A box of five cells. -/
def C5 (R : Nat) (T : TypeId) (a b c d e : Value) (x : World) : Prop := x.heap[R]? = some (.cells #[a, b, c, d, e] T (0, 0))
section
variable {R : Nat} {T : TypeId} {a b c d e : Value} {x y : World}
theorem C5.cells (h : C5 R T a b c d e x) : x.cell? ⟨R, 0, none⟩ = some a ∧ x.cell? ⟨R, 1, none⟩ = some b ∧ x.cell? ⟨R, 2, none⟩ = some c ∧ x.cell? ⟨R, 3, none⟩ = some d ∧ x.cell? ⟨R, 4, none⟩ = some e := by
  refine ⟨?_, ?_, ?_, ?_, ?_⟩ <;> (rw [Lib.cell_of_heap h]; rfl)
theorem C5.free (h : C5 R T a b c d e x) : x.frozen? ⟨R, 0, none⟩ = false ∧ x.frozen? ⟨R, 1, none⟩ = false ∧ x.frozen? ⟨R, 2, none⟩ = false ∧ x.frozen? ⟨R, 3, none⟩ = false ∧ x.frozen? ⟨R, 4, none⟩ = false :=
  ⟨Lib.frozen_of_heap h 0, Lib.frozen_of_heap h 1, Lib.frozen_of_heap h 2, Lib.frozen_of_heap h 3, Lib.frozen_of_heap h 4⟩
end

/-- The box that a call hands back, behind its own. -/
theorem two5 (w : World) (o : Obj) (T : TypeId) (a b c d e : Value) : C5 (w.heap.size + 1) T a b c d e ((w.alloc o).alloc (.cells #[a, b, c, d, e] T)) ∧ Below w.heap.size w ((w.alloc o).alloc (.cells #[a, b, c, d, e] T)) := by
  have hs : (w.alloc o).heap.size = w.heap.size + 1 := by simp
  refine ⟨?_, ((Below.refl _ _).alloc (Nat.le_refl _) _).alloc (by omega) _⟩
  have := heap_alloc_new (w.alloc o) (.cells #[a, b, c, d, e] T)
  rw [hs] at this
  exact this

set_option maxHeartbeats 2000000 in
set_option maxRecDepth 100000 in
/-- A tray, and whether there can be so many sectors. -/
theorem rnew_any (n : Int) (ok : Bool) (hok : ok = decide (4 ≤ n ∧ n ≤ 4096)) (w : World) : Calls Try.prog 13 #[.int .i64 n] w fun e x => e = .returned (.tuple #[trV n (.slice none 0 0) (.slice none 0 0) (-1) false, .bool ok]) ∧ Below w.heap.size w x := by
  have HK := Lib.hid hok
  clear hok
  have h0 : C5 w.heap.size tTr (.int .i64 0) (.slice none 0 0) (.slice none 0 0) (.int .i64 0) (.bool false) (w.alloc (.cells #[.int .i64 0, .slice none 0 0, .slice none 0 0, .int .i64 0, .bool false] tTr)) := heap_alloc_new w _
  obtain ⟨c0, c1, c2, c3, c4⟩ := h0.cells
  obtain ⟨f0, f1, f2, f3, f4⟩ := h0.free
  have h1 : C5 w.heap.size tTr (.int .i64 n) (.slice none 0 0) (.slice none 0 0) (.int .i64 (-1)) (.bool false) (w.alloc (.cells #[.int .i64 n, .slice none 0 0, .slice none 0 0, .int .i64 (-1), .bool false] tTr)) := heap_alloc_new w _
  obtain ⟨g0, g1, g2, g3, g4⟩ := h1.cells
  have hb : Below w.heap.size w (w.alloc (.cells #[.int .i64 n, .slice none 0 0, .slice none 0 0, .int .i64 (-1), .bool false] tTr)) := (Below.refl _ _).alloc (Nat.le_refl _) _
  clear h0 h1
  by_cases h1 : 4 ≤ n
  · go_enter Try.func13, Try.ntmps13
    go_wp2_with fail
    refine bodyPost_ret (v := .tuple #[trV n (.slice none 0 0) (.slice none 0 0) (-1) false, .bool (decide (n ≤ 4096))]) (by simp [trV, results, Try.results13, go_sem, g0, g1, g2, g3, g4]) rfl ⟨?_, hb⟩
    rw [HK.out]; simp [h1]
  · go_enter Try.func13, Try.ntmps13
    go_wp2_with fail
    refine bodyPost_ret (v := .tuple #[trV n (.slice none 0 0) (.slice none 0 0) (-1) false, .bool false]) (by simp [trV, results, Try.results13, go_sem, g0, g1, g2, g3, g4]) rfl ⟨?_, hb⟩
    rw [HK.out]; simp; omega

set_option maxHeartbeats 4000000 in
set_option maxRecDepth 100000 in
/-- A step: one fewer, or it is dark. -/
theorem rstep_any (n : Int) (k c : Value) (hk : ∃ a m q, k = .slice a m q) (hc : ∃ a m q, c = .slice a m q) (l : Int) (hl : -1 ≤ l ∧ l ≤ 1099511627776) (d : Bool) (w : World) :
    Calls Try.prog 44 #[trV n k c l d] w fun e x => e = .returned (.tuple #[if l = 0 then trV n k c l true else trV n k c (if 0 < l then l - 1 else l) d, .bool (decide (l ≠ 0))]) ∧ Below w.heap.size w x := by
  obtain ⟨a, m, q, rfl⟩ := hk
  obtain ⟨b, o, r, rfl⟩ := hc
  unfold trV
  have wr : 0 < l → IntKind.wrap .i64 (l - 1) = l - 1 := fun _ => by rw [IntKind.wrap_i64] <;> omega
  by_cases h0 : l = 0
  · subst h0
    obtain ⟨hr, hb⟩ := two5 w (.cells #[.int .i64 n, .slice a m q, .slice b o r, .int .i64 0, .bool true] tTr) tTr (.int .i64 n) (.slice a m q) (.slice b o r) (.int .i64 0) (.bool true)
    obtain ⟨g0, g1, g2, g3, g4⟩ := hr.cells
    go_enter Try.func44, Try.ntmps44
    go_wp2_with fail
    refine bodyPost_ret (v := .tuple #[.agg #[.int .i64 n, .slice a m q, .slice b o r, .int .i64 0, .bool true], .bool false]) (by simp [results, Try.results44, go_sem, g0, g1, g2, g3, g4]) rfl ⟨?_, hb⟩
    rfl
  · have e0 : (l == 0) = false := by simp [h0]
    by_cases h1 : 0 < l
    · have w1 := wr h1
      obtain ⟨hr, hb⟩ := two5 w (.cells #[.int .i64 n, .slice a m q, .slice b o r, .int .i64 (l - 1), .bool d] tTr) tTr (.int .i64 n) (.slice a m q) (.slice b o r) (.int .i64 (l - 1)) (.bool d)
      obtain ⟨g0, g1, g2, g3, g4⟩ := hr.cells
      go_enter Try.func44, Try.ntmps44
      go_wp2_with fail
      refine bodyPost_ret (v := .tuple #[.agg #[.int .i64 n, .slice a m q, .slice b o r, .int .i64 (l - 1), .bool d], .bool true]) (by simp [results, Try.results44, go_sem, g0, g1, g2, g3, g4]) rfl ⟨?_, hb⟩
      rfl
    · obtain ⟨hr, hb⟩ := two5 w (.cells #[.int .i64 n, .slice a m q, .slice b o r, .int .i64 l, .bool d] tTr) tTr (.int .i64 n) (.slice a m q) (.slice b o r) (.int .i64 l) (.bool d)
      obtain ⟨g0, g1, g2, g3, g4⟩ := hr.cells
      go_enter Try.func44, Try.ntmps44
      go_wp2_with fail
      refine bodyPost_ret (v := .tuple #[.agg #[.int .i64 n, .slice a m q, .slice b o r, .int .i64 l, .bool d], .bool true]) (by simp [results, Try.results44, go_sem, g0, g1, g2, g3, g4]) rfl ⟨?_, hb⟩
      rfl

set_option maxHeartbeats 4000000 in
set_option maxRecDepth 100000 in
/-- A power is told. -/
theorem rpower_any (n : Int) (k c : Value) (hk : ∃ a m q, k = .slice a m q) (hc : ∃ a m q, c = .slice a m q) (l z : Int) (d : Bool) (ok : Bool) (hok : ok = decide (0 ≤ z ∧ z ≤ 1099511627776)) (w : World) :
    Calls Try.prog 22 #[trV n k c l d, .int .i64 z] w fun e x => e = .returned (.tuple #[if ok = true then trV n k c z false else trV n k c l d, .int .i64 (if ok = true then 0 else 1)]) ∧ Below w.heap.size w x := by
  obtain ⟨a, m, q, rfl⟩ := hk
  obtain ⟨b, o, r, rfl⟩ := hc
  unfold trV
  by_cases h0 : z < 0
  · obtain rfl : ok = false := by rw [hok]; simp; omega
    clear hok
    obtain ⟨hr, hb⟩ := two5 w (.cells #[.int .i64 n, .slice a m q, .slice b o r, .int .i64 l, .bool d] tTr) tTr (.int .i64 n) (.slice a m q) (.slice b o r) (.int .i64 l) (.bool d)
    obtain ⟨g0, g1, g2, g3, g4⟩ := hr.cells
    go_enter Try.func22, Try.ntmps22
    go_wp2_with fail
    refine bodyPost_ret (v := .tuple #[.agg #[.int .i64 n, .slice a m q, .slice b o r, .int .i64 l, .bool d], .int .i64 1]) (by simp [results, Try.results22, go_sem, g0, g1, g2, g3, g4]) rfl ⟨?_, hb⟩
    rfl
  · by_cases h1 : 1099511627776 < z
    · obtain rfl : ok = false := by rw [hok]; simp; omega
      clear hok
      obtain ⟨hr, hb⟩ := two5 w (.cells #[.int .i64 n, .slice a m q, .slice b o r, .int .i64 l, .bool d] tTr) tTr (.int .i64 n) (.slice a m q) (.slice b o r) (.int .i64 l) (.bool d)
      obtain ⟨g0, g1, g2, g3, g4⟩ := hr.cells
      go_enter Try.func22, Try.ntmps22
      go_wp2_with fail
      refine bodyPost_ret (v := .tuple #[.agg #[.int .i64 n, .slice a m q, .slice b o r, .int .i64 l, .bool d], .int .i64 1]) (by simp [results, Try.results22, go_sem, g0, g1, g2, g3, g4]) rfl ⟨?_, hb⟩
      rfl
    · obtain rfl : ok = true := by rw [hok]; simp; omega
      clear hok
      obtain ⟨hr, hb⟩ := two5 w (.cells #[.int .i64 n, .slice a m q, .slice b o r, .int .i64 z, .bool false] tTr) tTr (.int .i64 n) (.slice a m q) (.slice b o r) (.int .i64 z) (.bool false)
      obtain ⟨g0, g1, g2, g3, g4⟩ := hr.cells
      go_enter Try.func22, Try.ntmps22
      go_wp2_with fail
      refine bodyPost_ret (v := .tuple #[.agg #[.int .i64 n, .slice a m q, .slice b o r, .int .i64 z, .bool false], .int .i64 0]) (by simp [results, Try.results22, go_sem, g0, g1, g2, g3, g4]) rfl ⟨?_, hb⟩
      rfl
end Ta
end Go.Proofs.Ytdodmjcbjknneaa
