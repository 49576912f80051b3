/-
  Layer 14: the program's hoard in memory; its Room, Most, Keep.
-/
import Derived.Test.YtkfmmdiflbnhgaaHoHd
import Derived.Test.YtkfmmdiflbnhgaaHoKp
namespace Go.Proofs.Ytkfmmdiflbnhgaa
set_option maxRecDepth 100000
open Go.RowKit
open Knot (Turns)
open Ta (IsBytes Stay sec nul ptr IsT C5 Tray)
open Sp (S SpB)
namespace Ho
abbrev tHo : TypeId := 132
/-- A hoard's ten cells. -/
def hcs (p q n : Nat) (H : Hd) : Array Value := #[ptr p, .int .i64 (qu n : Int), .int .i64 (H.m.getD 0 0 : Int), .int .i64 (H.m.getD 1 0 : Int), .int .i64 (H.m.getD 2 0 : Int), .int .i64 (H.m.getD 3 0 : Int), .int .i64 (H.m.getD 4 0 : Int), ptr q, .bool H.dead, .bool H.torn]
def HoB (x : World) (h p q n : Nat) (H : Hd) : Prop := x.heap[h]? = some (.cells (hcs p q n H) tHo (0, 0))
section
variable {w x y : World} {h p q n : Nat} {H : Hd} {F : Nat → Prop}
theorem HoB.lt (hb : HoB x h p q n H) : h < x.heap.size := (Array.getElem?_eq_some_iff.1 hb).1
theorem HoB.on (hb : HoB x h p q n H) (hB : Below x.heap.size x y) : HoB y h p q n H := (hB.block h hb.lt).trans hb
theorem HoB.turn {G : Nat → Prop} (hb : HoB x h p q n H) (ht : Turns G x y) (hG : ¬ G h) : HoB y h p q n H := ht.heap hb hG
theorem HoB.cells (hb : HoB x h p q n H) : (x.cell? ⟨h, 0, none⟩ = some (ptr p) ∧ x.cell? ⟨h, 1, none⟩ = some (.int .i64 (qu n : Int))) ∧ (x.cell? ⟨h, 2, none⟩ = some (.int .i64 (H.m.getD 0 0 : Int)) ∧ x.cell? ⟨h, 3, none⟩ = some (.int .i64 (H.m.getD 1 0 : Int)) ∧ x.cell? ⟨h, 4, none⟩ = some (.int .i64 (H.m.getD 2 0 : Int)) ∧ x.cell? ⟨h, 5, none⟩ = some (.int .i64 (H.m.getD 3 0 : Int)) ∧ x.cell? ⟨h, 6, none⟩ = some (.int .i64 (H.m.getD 4 0 : Int))) ∧
    x.cell? ⟨h, 7, none⟩ = some (ptr q) ∧ x.cell? ⟨h, 8, none⟩ = some (.bool H.dead) ∧ x.cell? ⟨h, 9, none⟩ = some (.bool H.torn) := by
  refine ⟨⟨?_, ?_⟩, ⟨?_, ?_, ?_, ?_, ?_⟩, ?_, ?_, ?_⟩ <;> (rw [Lib.cell_of_heap hb]; rfl)
theorem HoB.free (hb : HoB x h p q n H) (j : Nat) : x.frozen? ⟨h, j, none⟩ = false := Lib.frozen_of_heap hb j
/-- A hoard upon its tray. -/
structure Hs (w x : World) (h p q n : Nat) (H : Hd) (F : Nat → Prop) : Prop where
  sys : Sp.Sys w x p q n H.t H.s F
  box : HoB x h p q n H
  off : ¬ F h ∧ h ≠ q ∧ w.heap.size ≤ h
  n64 : 64 ≤ n
  fld : H.m.getD 2 0 ≤ 1
  small : H.m.getD 0 0 < 1152921504606846976 ∧ H.m.getD 1 0 < 1152921504606846976
theorem Hs.on (hs : Hs w x h p q n H F) (hb : Below x.heap.size x y) : Hs w y h p q n H F := ⟨hs.sys.on hb, hs.box.on hb, hs.off, hs.n64, hs.fld, hs.small⟩
theorem Hs.num (hs : Hs w x h p q n H F) : n ≤ 4096 := hs.sys.tray.num.2
set_option maxHeartbeats 4000000 in
set_option maxRecDepth 100000 in
theorem Hs.room (hs : Hs w x h p q n H F) : Calls Try.prog 48 #[ptr h] x fun e y => e = .returned (.int .i64 ((H.s.count : Int) - ((H.s.tail : Int) - (H.s.head : Int)))) ∧ Below x.heap.size x y := by
  have HR := Lib.hid (Sp.room_any hs.sys.spool hs.sys.fits)
  obtain ⟨-, -, c7, -⟩ := hs.box.cells
  clear hs
  go_enter Try.func48, Try.ntmps48
  go_wp2_with fail
  refine HR.out.mono ?_
  rintro e y ⟨rfl, hb⟩
  have HB := Lib.hid hb
  clear hb HR c7
  go_wp2_with fail
  go_ret
  exact ⟨rfl, HB.out⟩
set_option maxHeartbeats 4000000 in
set_option maxRecDepth 100000 in
theorem Hs.most (hs : Hs w x h p q n H F) : Calls Try.prog 62 #[ptr h] x fun e y => e = .returned (.int .i64 ((qu n * 128 : Nat) : Int)) ∧ Below x.heap.size x y := by
  have HR := Lib.hid (dmost_any (p := p) (s := qu n) (by have := hs.num; unfold qu; omega) x)
  obtain ⟨⟨c0, c1⟩, -⟩ := hs.box.cells
  clear hs
  unfold dkV at HR
  generalize qu n * 128 = M at *
  go_enter Try.func62, Try.ntmps62
  go_wp2_with fail
  refine HR.out.mono ?_
  rintro e y ⟨rfl, hb⟩
  have HB := Lib.hid hb
  clear hb HR c0 c1
  go_wp2_with fail
  go_ret
  exact ⟨rfl, HB.out⟩
/-- Its box is laid anew. -/
theorem Hs.lay {x z : World} {H' : Hd} (hs : Hs w x h p q n H F) (ht : Turns (fun k => k = h) x z) (hb : HoB z h p q n H') (h1 : H'.t = H.t) (h2 : H'.s = H.s) (h3 : H'.m.getD 2 0 ≤ 1) (h4 : H'.m.getD 0 0 < 1152921504606846976 ∧ H'.m.getD 1 0 < 1152921504606846976) : Hs w z h p q n H' F := by
  refine ⟨?_, hb, hs.off, hs.n64, h3, h4⟩
  rw [h1, h2]
  exact hs.sys.turn ht fun k e => by subst e; exact ⟨hs.off.2.2, hs.off.1, hs.off.2.1⟩
set_option maxHeartbeats 8000000 in
set_option maxRecDepth 100000 in
theorem Hs.keep (hs : Hs w x h p q n H F) (v : Value) (b : List UInt8) (hv : Stay F x fun x => IsBytes x v b) (hb : b.length ≤ 1000000) (hc : H.t.cache.length ≤ 80000) (htl : H.s.tail ≤ 70368744177664) :
    Calls Try.prog 41 #[ptr h, v] x fun e y => e = .returned (.int .i64 (hkeep H b).2) ∧ ∃ F', Hs w y h p q n (hkeep H b).1 F' ∧ (∀ k, F' k → F k ∨ x.heap.size ≤ k) ∧ Turns (fun k => F k ∨ k = q ∨ k = h) x y := by
  obtain ⟨va, vc, rfl, -⟩ := hv.now
  obtain ⟨-, -, c7, c8, c9⟩ := hs.box.cells
  by_cases ht : H.torn = true
  · rw [ht] at c9
    have HE := Lib.hid (show hkeep H b = (H, 20) from if_pos ht)
    have HS := Lib.hid hs
    clear hs hv c7 c8 ht
    go_enter Try.func41, Try.ntmps41
    go_wp2_with fail
    go_ret
    rw [HE.out]
    exact ⟨rfl, F, HS.out, fun _ h => .inl h, Turns.refl _ _⟩
  · have hf : H.torn = false := by simpa using ht
    rw [hf] at c9
    have HA := Lib.hid (hs.sys.append (.slice va b.length vc) b hv hb (by omega) htl)
    have HE := Lib.hid (show hkeep H b = ({ H with t := (Sp.append H.s b H.t).1, s := (Sp.append H.s b H.t).2.1, dead := H.dead || decide ((Sp.append H.s b H.t).2.2 = 20) }, (Sp.append H.s b H.t).2.2) from if_neg ht)
    generalize hap : Sp.append H.s b H.t = ap at *
    obtain ⟨t', s', cd⟩ := ap
    have HS := Lib.hid hs
    clear hs hv hap ht c8
    simp only at HE HA
    go_enter Try.func41, Try.ntmps41
    go_wp2_with fail
    refine HA.out.mono ?_
    rintro e y ⟨rfl, F', hsy, hF', hty⟩
    have hqh : ¬ (fun k => F k ∨ k = q) h := fun e => e.elim HS.out.off.1 HS.out.off.2.1
    have hbx := HS.out.box.turn hty hqh
    have hoff : ¬ F' h := fun e => (hF' h e).elim HS.out.off.1 fun e => by have := HS.out.box.lt; omega
    have hnew : Hs w y h p q n { H with t := t', s := s' } F' := ⟨hsy, hbx, ⟨hoff, HS.out.off.2⟩, HS.out.n64, HS.out.fld, HS.out.small⟩
    have hty' : Turns (fun k => F k ∨ k = q ∨ k = h) x y := hty.mono fun k _ e => e.elim .inl fun e => .inr (.inl e)
    have HN := Lib.hid (And.intro hnew (And.intro hF' hty'))
    by_cases hcd : cd = 20
    · subst hcd
      have f8 := hbx.free 8
      obtain ⟨-, -, -, d8, -⟩ := hbx.cells
      have hset := heap_setCell_same y h 8 _ _ (.bool true) hbx
      have hts := Sp.turn1 y h 8 (.bool true)
      have HN2 := Lib.hid (show Hs w (y.setCell ⟨h, 8, none⟩ (.bool true)) h p q n { H with t := t', s := s', dead := true } F' ∧ Turns (fun k => F k ∨ k = q ∨ k = h) x (y.setCell ⟨h, 8, none⟩ (.bool true)) from
        ⟨hnew.lay hts hset rfl rfl HS.out.fld HS.out.small, hty'.trans hts fun k _ e => .inr (.inr e)⟩)
      have h20 : ((20 : Int) == 20) = true := rfl
      clear hset hts hnew hty hty' hbx hqh hoff hF' hsy c7 c9 HA
      go_wp2_with fail
      go_ret
      rw [HE.out]
      simp only [decide_true, Bool.or_true]
      exact ⟨rfl, F', HN2.out.1, HN.out.2.1, HN2.out.2⟩
    · have h20 : (cd == 20) = false := by simpa using hcd
      have HC := Lib.hid hcd
      clear hnew hty hty' hbx hqh hoff hF' hsy c7 c9 HA hcd
      go_wp2_with fail
      go_ret
      rw [HE.out]
      simp only [decide_eq_false HC.out, Bool.or_false]
      exact ⟨rfl, F', HN.out.1, HN.out.2.1, HN.out.2.2⟩
end
end Ho
end Go.Proofs.Ytkfmmdiflbnhgaa
