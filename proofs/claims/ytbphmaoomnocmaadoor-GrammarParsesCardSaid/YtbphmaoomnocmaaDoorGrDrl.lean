/-
  Layer 7's document: rel. Written by gen/mk_dr2.py and ord.py.
-/
import Derived.Test.YtbphmaoomnocmaaDoorGrDaw
import Derived.Test.YtbphmaoomnocmaaDoorGrRel
import Derived.Deep.DeepCutAuto
namespace Go.Proofs.YtbphmaoomnocmaaDoor
open Go.RowKit
namespace Gr
open Knot (Turns NewRow)
open Tr (Nd none0 node4 own_slice Box4)
open Sg (Tok kt TokAt txt)

/-- What rel's loop keeps. -/
structure Dr (c : DCtx) (o : Nat) (x : World) (A : ByteArray) (r : List Al × St) (more : Bool) (l : List Al) (lo : Option Addr) (lc : Nat) (si : St) (w : World) : Prop where
  b0 : C4 x.heap.size tSt (.slice c.ao c.L.length c.cap) (.int .i64 (atN c si : Nat)) (.int .i64 (o : Nat)) (.int .i64 (si.err : Nat)) w
  b1 : C4 (x.heap.size + 1) tSt (.slice none 0 0) (.int .i64 0) (.int .i64 0) (.int .i64 0) w
  b2 : C6 (x.heap.size + 1 + 1) tRl (.string ⟨#[]⟩) (.slice none 0 0) (.int .i64 0) (.string ⟨#[]⟩) (.string ⟨#[]⟩) (.slice none 0 0) w
  b4 : C6 (x.heap.size + 1 + 1 + 1) tRl (.string A) (.slice lo l.length lc) (.int .i64 0) (.string ⟨#[]⟩) (.string ⟨#[]⟩) (.slice none 0 0) w
  below : Below x.heap.size x w
  row : RowX allowE (fun _ => False) w (x.heap.size + 4) tAl (.slice lo l.length lc) l
  suf : si.rest <:+ kt c.L
  more : if more = true then (next si ≠ 0 ∧ (l ++ (list allow 44 (tl si)).1, (list allow 44 (tl si)).2) = r) else (l, si) = r
  len : l.length + si.rest.length ≤ 10001

set_option maxHeartbeats 16000000 in
set_option maxRecDepth 100000 in
theorem drel_any {c : DCtx} {o : Nat} (hU : DPart nodeE c o 22 union) {s : St} {x : World} (h : DEnv c x) (hs : s.rest <:+ kt c.L) :
    Calls Tryd.prog 53 #[stV c o s] x (DOut relE c o (rel (need s 3)) x) := by
  have HQ := Lib.hid (show rel (need s 3) = (⟨tk (need s 3) 1, (allows (need (need s 3) 1)).1, (union (need (allows (need (need s 3) 1)).2 61)).1⟩, need (union (need (allows (need (need s 3) 1)).2 61)).2 59) by simp only [rel, word_tk])
  generalize rel (need s 3) = res at *
  have B0 := Lib.hid (C4.new x tSt (.slice c.ao c.L.length c.cap) (.int .i64 (atN c s : Nat)) (.int .i64 (o : Nat)) (.int .i64 (s.err : Nat)))
  have BL := Lib.hid (show Below x.heap.size x (x.alloc (.cells #[.slice c.ao c.L.length c.cap, .int .i64 (atN c s : Nat), .int .i64 (o : Nat), .int .i64 (s.err : Nat)] tSt)) from (Below.refl _ _).alloc (Nat.le_refl _) _)
  have z1 : (x.alloc (.cells #[.slice c.ao c.L.length c.cap, .int .i64 (atN c s : Nat), .int .i64 (o : Nat), .int .i64 (s.err : Nat)] tSt)).heap.size = x.heap.size + 1 := by simp
  have al : Below (x.alloc (.cells #[.slice c.ao c.L.length c.cap, .int .i64 (atN c s : Nat), .int .i64 (o : Nat), .int .i64 (s.err : Nat)] tSt)).heap.size (x.alloc (.cells #[.slice c.ao c.L.length c.cap, .int .i64 (atN c s : Nat), .int .i64 (o : Nat), .int .i64 (s.err : Nat)] tSt)) ((x.alloc (.cells #[.slice c.ao c.L.length c.cap, .int .i64 (atN c s : Nat), .int .i64 (o : Nat), .int .i64 (s.err : Nat)] tSt)).alloc (.cells #[.slice none 0 0, .int .i64 0, .int .i64 0, .int .i64 0] tSt)) := (Below.refl _ _).alloc (Nat.le_refl _) _
  replace B0 := Lib.hid (B0.out.on al)
  have hn := C4.new (x.alloc (.cells #[.slice c.ao c.L.length c.cap, .int .i64 (atN c s : Nat), .int .i64 (o : Nat), .int .i64 (s.err : Nat)] tSt)) tSt (.slice none 0 0) (.int .i64 0) (.int .i64 0) (.int .i64 0)
  rw [z1] at hn
  have B1 := Lib.hid hn
  have z2 : ((x.alloc (.cells #[.slice c.ao c.L.length c.cap, .int .i64 (atN c s : Nat), .int .i64 (o : Nat), .int .i64 (s.err : Nat)] tSt)).alloc (.cells #[.slice none 0 0, .int .i64 0, .int .i64 0, .int .i64 0] tSt)).heap.size = x.heap.size + 1 + 1 := by simp
  replace BL := Lib.hid (BL.out.trans (al.mono BL.out.size))
  clear al hn
  have al : Below ((x.alloc (.cells #[.slice c.ao c.L.length c.cap, .int .i64 (atN c s : Nat), .int .i64 (o : Nat), .int .i64 (s.err : Nat)] tSt)).alloc (.cells #[.slice none 0 0, .int .i64 0, .int .i64 0, .int .i64 0] tSt)).heap.size ((x.alloc (.cells #[.slice c.ao c.L.length c.cap, .int .i64 (atN c s : Nat), .int .i64 (o : Nat), .int .i64 (s.err : Nat)] tSt)).alloc (.cells #[.slice none 0 0, .int .i64 0, .int .i64 0, .int .i64 0] tSt)) (((x.alloc (.cells #[.slice c.ao c.L.length c.cap, .int .i64 (atN c s : Nat), .int .i64 (o : Nat), .int .i64 (s.err : Nat)] tSt)).alloc (.cells #[.slice none 0 0, .int .i64 0, .int .i64 0, .int .i64 0] tSt)).alloc (.cells #[.string ⟨#[]⟩, .slice none 0 0, .int .i64 0, .string ⟨#[]⟩, .string ⟨#[]⟩, .slice none 0 0] tRl)) := (Below.refl _ _).alloc (Nat.le_refl _) _
  replace B0 := Lib.hid (B0.out.on al)
  replace B1 := Lib.hid (B1.out.on al)
  have hn := C6.new ((x.alloc (.cells #[.slice c.ao c.L.length c.cap, .int .i64 (atN c s : Nat), .int .i64 (o : Nat), .int .i64 (s.err : Nat)] tSt)).alloc (.cells #[.slice none 0 0, .int .i64 0, .int .i64 0, .int .i64 0] tSt)) tRl (.string ⟨#[]⟩) (.slice none 0 0) (.int .i64 0) (.string ⟨#[]⟩) (.string ⟨#[]⟩) (.slice none 0 0)
  rw [z2] at hn
  have B2 := Lib.hid hn
  have z3 : (((x.alloc (.cells #[.slice c.ao c.L.length c.cap, .int .i64 (atN c s : Nat), .int .i64 (o : Nat), .int .i64 (s.err : Nat)] tSt)).alloc (.cells #[.slice none 0 0, .int .i64 0, .int .i64 0, .int .i64 0] tSt)).alloc (.cells #[.string ⟨#[]⟩, .slice none 0 0, .int .i64 0, .string ⟨#[]⟩, .string ⟨#[]⟩, .slice none 0 0] tRl)).heap.size = x.heap.size + 1 + 1 + 1 := by simp
  replace BL := Lib.hid (BL.out.trans (al.mono BL.out.size))
  clear al hn
  have al : Below (((x.alloc (.cells #[.slice c.ao c.L.length c.cap, .int .i64 (atN c s : Nat), .int .i64 (o : Nat), .int .i64 (s.err : Nat)] tSt)).alloc (.cells #[.slice none 0 0, .int .i64 0, .int .i64 0, .int .i64 0] tSt)).alloc (.cells #[.string ⟨#[]⟩, .slice none 0 0, .int .i64 0, .string ⟨#[]⟩, .string ⟨#[]⟩, .slice none 0 0] tRl)).heap.size (((x.alloc (.cells #[.slice c.ao c.L.length c.cap, .int .i64 (atN c s : Nat), .int .i64 (o : Nat), .int .i64 (s.err : Nat)] tSt)).alloc (.cells #[.slice none 0 0, .int .i64 0, .int .i64 0, .int .i64 0] tSt)).alloc (.cells #[.string ⟨#[]⟩, .slice none 0 0, .int .i64 0, .string ⟨#[]⟩, .string ⟨#[]⟩, .slice none 0 0] tRl)) ((((x.alloc (.cells #[.slice c.ao c.L.length c.cap, .int .i64 (atN c s : Nat), .int .i64 (o : Nat), .int .i64 (s.err : Nat)] tSt)).alloc (.cells #[.slice none 0 0, .int .i64 0, .int .i64 0, .int .i64 0] tSt)).alloc (.cells #[.string ⟨#[]⟩, .slice none 0 0, .int .i64 0, .string ⟨#[]⟩, .string ⟨#[]⟩, .slice none 0 0] tRl)).alloc (.cells #[.string ⟨#[]⟩, .slice none 0 0, .int .i64 0, .string ⟨#[]⟩, .string ⟨#[]⟩, .slice none 0 0] tRl)) := (Below.refl _ _).alloc (Nat.le_refl _) _
  replace B0 := Lib.hid (B0.out.on al)
  replace B1 := Lib.hid (B1.out.on al)
  replace B2 := Lib.hid (B2.out.on al)
  have hn := C6.new (((x.alloc (.cells #[.slice c.ao c.L.length c.cap, .int .i64 (atN c s : Nat), .int .i64 (o : Nat), .int .i64 (s.err : Nat)] tSt)).alloc (.cells #[.slice none 0 0, .int .i64 0, .int .i64 0, .int .i64 0] tSt)).alloc (.cells #[.string ⟨#[]⟩, .slice none 0 0, .int .i64 0, .string ⟨#[]⟩, .string ⟨#[]⟩, .slice none 0 0] tRl)) tRl (.string ⟨#[]⟩) (.slice none 0 0) (.int .i64 0) (.string ⟨#[]⟩) (.string ⟨#[]⟩) (.slice none 0 0)
  rw [z3] at hn
  have B4 := Lib.hid hn
  have z4 : ((((x.alloc (.cells #[.slice c.ao c.L.length c.cap, .int .i64 (atN c s : Nat), .int .i64 (o : Nat), .int .i64 (s.err : Nat)] tSt)).alloc (.cells #[.slice none 0 0, .int .i64 0, .int .i64 0, .int .i64 0] tSt)).alloc (.cells #[.string ⟨#[]⟩, .slice none 0 0, .int .i64 0, .string ⟨#[]⟩, .string ⟨#[]⟩, .slice none 0 0] tRl)).alloc (.cells #[.string ⟨#[]⟩, .slice none 0 0, .int .i64 0, .string ⟨#[]⟩, .string ⟨#[]⟩, .slice none 0 0] tRl)).heap.size = x.heap.size + 1 + 1 + 1 + 1 := by simp
  replace BL := Lib.hid (BL.out.trans (al.mono BL.out.size))
  clear al hn
  clear z1 z2 z3 z4
  obtain ⟨q00, q01, q02, q03⟩ := B0.out.cells
  show Calls _ _ #[.agg #[.slice c.ao c.L.length c.cap, .int .i64 (atN c s : Nat), .int .i64 (o : Nat), .int .i64 (s.err : Nat)]] _ _
  go_enter Tryd.func53, Tryd.ntmps53
  go_wp2_with fail
  generalize ((((x.alloc (.cells #[.slice c.ao c.L.length c.cap, .int .i64 (atN c s : Nat), .int .i64 (o : Nat), .int .i64 (s.err : Nat)] tSt)).alloc (.cells #[.slice none 0 0, .int .i64 0, .int .i64 0, .int .i64 0] tSt)).alloc (.cells #[.string ⟨#[]⟩, .slice none 0 0, .int .i64 0, .string ⟨#[]⟩, .string ⟨#[]⟩, .slice none 0 0] tRl)).alloc (.cells #[.string ⟨#[]⟩, .slice none 0 0, .int .i64 0, .string ⟨#[]⟩, .string ⟨#[]⟩, .slice none 0 0] tRl)) = w1 at *
  clear q00 q01 q02 q03
  have hT := dtake_any (o := o) (s := s) (h.below BL.out) hs 3 (by decide)
  refine hT.mono ?_
  rintro e w2 ⟨rfl, hbw⟩
  have hs0 : (need s 3).rest <:+ kt c.L := (need_suf _ 3).trans hs
  replace B0 := Lib.hid (B0.out.on hbw)
  replace B1 := Lib.hid (B1.out.on hbw)
  replace B2 := Lib.hid (B2.out.on hbw)
  replace B4 := Lib.hid (B4.out.on hbw)
  replace BL := Lib.hid (BL.out.trans (hbw.mono BL.out.size))
  clear hT hbw
  generalize tk s 3 = A0 at *
  generalize need s 3 = s0 at *
  obtain ⟨q10, q11, q12, q13⟩ := B0.out.cells
  obtain ⟨f20, f21, f22, f23⟩ := B0.out.free
  have t1 : Turns (fun g => g = x.heap.size) w2 ((((w2.setCell ⟨x.heap.size, 0, none⟩ (.slice c.ao c.L.length c.cap)).setCell ⟨x.heap.size, 1, none⟩ (.int .i64 (atN c s0 : Nat))).setCell ⟨x.heap.size, 2, none⟩ (.int .i64 (o : Nat))).setCell ⟨x.heap.size, 3, none⟩ (.int .i64 (s0.err : Nat))) := (((((Turns.refl (fun g => g = x.heap.size) w2).setCell (p := ⟨x.heap.size, 0, none⟩) rfl (.slice c.ao c.L.length c.cap)).setCell (p := ⟨x.heap.size, 1, none⟩) rfl (.int .i64 (atN c s0 : Nat))).setCell (p := ⟨x.heap.size, 2, none⟩) rfl (.int .i64 (o : Nat))).setCell (p := ⟨x.heap.size, 3, none⟩) rfl (.int .i64 (s0.err : Nat)))
  replace B0 := Lib.hid (show C4 x.heap.size tSt (.slice c.ao c.L.length c.cap) (.int .i64 (atN c s0 : Nat)) (.int .i64 (o : Nat)) (.int .i64 (s0.err : Nat)) ((((w2.setCell ⟨x.heap.size, 0, none⟩ (.slice c.ao c.L.length c.cap)).setCell ⟨x.heap.size, 1, none⟩ (.int .i64 (atN c s0 : Nat))).setCell ⟨x.heap.size, 2, none⟩ (.int .i64 (o : Nat))).setCell ⟨x.heap.size, 3, none⟩ (.int .i64 (s0.err : Nat))) from (Lib.heap_setCell_same (i := 3) (Lib.heap_setCell_same (i := 2) (Lib.heap_setCell_same (i := 1) (Lib.heap_setCell_same (i := 0) B0.out (.slice c.ao c.L.length c.cap)) (.int .i64 (atN c s0 : Nat))) (.int .i64 (o : Nat))) (.int .i64 (s0.err : Nat))))
  replace B1 := Lib.hid (B1.out.turn t1 (by omega))
  replace B2 := Lib.hid (B2.out.turn t1 (by omega))
  replace B4 := Lib.hid (B4.out.turn t1 (by omega))
  replace BL := Lib.hid (BL.out.trans (t1.below BL.out.size fun k hk => by omega))
  clear t1
  obtain ⟨q30, q31, q32, q33⟩ := B0.out.cells
  go_wp2_with fail
  generalize ((((w2.setCell ⟨x.heap.size, 0, none⟩ (.slice c.ao c.L.length c.cap)).setCell ⟨x.heap.size, 1, none⟩ (.int .i64 (atN c s0 : Nat))).setCell ⟨x.heap.size, 2, none⟩ (.int .i64 (o : Nat))).setCell ⟨x.heap.size, 3, none⟩ (.int .i64 (s0.err : Nat))) = w3 at *
  clear q10 q11 q12 q13 f20 f21 f22 f23 q30 q31 q32 q33
  have hT := dtake_any (o := o) (s := s0) (h.below BL.out) hs0 1 (by decide)
  refine hT.mono ?_
  rintro e w4 ⟨rfl, hbw⟩
  have hs1 : (need s0 1).rest <:+ kt c.L := (need_suf _ 1).trans hs0
  replace B0 := Lib.hid (B0.out.on hbw)
  replace B1 := Lib.hid (B1.out.on hbw)
  replace B2 := Lib.hid (B2.out.on hbw)
  replace B4 := Lib.hid (B4.out.on hbw)
  replace BL := Lib.hid (BL.out.trans (hbw.mono BL.out.size))
  clear hT hbw
  generalize tk s0 1 = A at *
  generalize need s0 1 = s1 at *
  obtain ⟨q40, q41, q42, q43⟩ := B0.out.cells
  obtain ⟨f50, f51, f52, f53⟩ := B0.out.free
  have t1 : Turns (fun g => g = x.heap.size) w4 ((((w4.setCell ⟨x.heap.size, 0, none⟩ (.slice c.ao c.L.length c.cap)).setCell ⟨x.heap.size, 1, none⟩ (.int .i64 (atN c s1 : Nat))).setCell ⟨x.heap.size, 2, none⟩ (.int .i64 (o : Nat))).setCell ⟨x.heap.size, 3, none⟩ (.int .i64 (s1.err : Nat))) := (((((Turns.refl (fun g => g = x.heap.size) w4).setCell (p := ⟨x.heap.size, 0, none⟩) rfl (.slice c.ao c.L.length c.cap)).setCell (p := ⟨x.heap.size, 1, none⟩) rfl (.int .i64 (atN c s1 : Nat))).setCell (p := ⟨x.heap.size, 2, none⟩) rfl (.int .i64 (o : Nat))).setCell (p := ⟨x.heap.size, 3, none⟩) rfl (.int .i64 (s1.err : Nat)))
  replace B0 := Lib.hid (show C4 x.heap.size tSt (.slice c.ao c.L.length c.cap) (.int .i64 (atN c s1 : Nat)) (.int .i64 (o : Nat)) (.int .i64 (s1.err : Nat)) ((((w4.setCell ⟨x.heap.size, 0, none⟩ (.slice c.ao c.L.length c.cap)).setCell ⟨x.heap.size, 1, none⟩ (.int .i64 (atN c s1 : Nat))).setCell ⟨x.heap.size, 2, none⟩ (.int .i64 (o : Nat))).setCell ⟨x.heap.size, 3, none⟩ (.int .i64 (s1.err : Nat))) from (Lib.heap_setCell_same (i := 3) (Lib.heap_setCell_same (i := 2) (Lib.heap_setCell_same (i := 1) (Lib.heap_setCell_same (i := 0) B0.out (.slice c.ao c.L.length c.cap)) (.int .i64 (atN c s1 : Nat))) (.int .i64 (o : Nat))) (.int .i64 (s1.err : Nat))))
  replace B1 := Lib.hid (B1.out.turn t1 (by omega))
  replace B2 := Lib.hid (B2.out.turn t1 (by omega))
  replace B4 := Lib.hid (B4.out.turn t1 (by omega))
  replace BL := Lib.hid (BL.out.trans (t1.below BL.out.size fun k hk => by omega))
  clear t1
  obtain ⟨q60, q61, q62, q63, q64, q65⟩ := B4.out.cells
  obtain ⟨f70, f71, f72, f73, f74, f75⟩ := B4.out.free
  have t1 : Turns (fun g => g = x.heap.size + 1 + 1 + 1) ((((w4.setCell ⟨x.heap.size, 0, none⟩ (.slice c.ao c.L.length c.cap)).setCell ⟨x.heap.size, 1, none⟩ (.int .i64 (atN c s1 : Nat))).setCell ⟨x.heap.size, 2, none⟩ (.int .i64 (o : Nat))).setCell ⟨x.heap.size, 3, none⟩ (.int .i64 (s1.err : Nat))) (((((w4.setCell ⟨x.heap.size, 0, none⟩ (.slice c.ao c.L.length c.cap)).setCell ⟨x.heap.size, 1, none⟩ (.int .i64 (atN c s1 : Nat))).setCell ⟨x.heap.size, 2, none⟩ (.int .i64 (o : Nat))).setCell ⟨x.heap.size, 3, none⟩ (.int .i64 (s1.err : Nat))).setCell ⟨x.heap.size + 1 + 1 + 1, 0, none⟩ (.string A)) := ((Turns.refl (fun g => g = x.heap.size + 1 + 1 + 1) ((((w4.setCell ⟨x.heap.size, 0, none⟩ (.slice c.ao c.L.length c.cap)).setCell ⟨x.heap.size, 1, none⟩ (.int .i64 (atN c s1 : Nat))).setCell ⟨x.heap.size, 2, none⟩ (.int .i64 (o : Nat))).setCell ⟨x.heap.size, 3, none⟩ (.int .i64 (s1.err : Nat)))).setCell (p := ⟨x.heap.size + 1 + 1 + 1, 0, none⟩) rfl (.string A))
  replace B0 := Lib.hid (B0.out.turn t1 (by omega))
  replace B1 := Lib.hid (B1.out.turn t1 (by omega))
  replace B2 := Lib.hid (B2.out.turn t1 (by omega))
  replace B4 := Lib.hid (show C6 (x.heap.size + 1 + 1 + 1) tRl (.string A) (.slice none 0 0) (.int .i64 0) (.string ⟨#[]⟩) (.string ⟨#[]⟩) (.slice none 0 0) (((((w4.setCell ⟨x.heap.size, 0, none⟩ (.slice c.ao c.L.length c.cap)).setCell ⟨x.heap.size, 1, none⟩ (.int .i64 (atN c s1 : Nat))).setCell ⟨x.heap.size, 2, none⟩ (.int .i64 (o : Nat))).setCell ⟨x.heap.size, 3, none⟩ (.int .i64 (s1.err : Nat))).setCell ⟨x.heap.size + 1 + 1 + 1, 0, none⟩ (.string A)) from (Lib.heap_setCell_same (i := 0) B4.out (.string A)))
  replace BL := Lib.hid (BL.out.trans (t1.below BL.out.size fun k hk => by omega))
  clear t1
  obtain ⟨q80, q81, q82, q83⟩ := B0.out.cells
  go_wp2_with fail
  generalize (((((w4.setCell ⟨x.heap.size, 0, none⟩ (.slice c.ao c.L.length c.cap)).setCell ⟨x.heap.size, 1, none⟩ (.int .i64 (atN c s1 : Nat))).setCell ⟨x.heap.size, 2, none⟩ (.int .i64 (o : Nat))).setCell ⟨x.heap.size, 3, none⟩ (.int .i64 (s1.err : Nat))).setCell ⟨x.heap.size + 1 + 1 + 1, 0, none⟩ (.string A)) = w5 at *
  clear q40 q41 q42 q43 f50 f51 f52 f53 q60 q61 q62 q63 q64 q65 f70 f71 f72 f73 f74 f75 q80 q81 q82 q83
  have hK := dkind_any (o := o) (s := s1) (h.below BL.out) hs1
  refine hK.mono ?_
  rintro e w6 ⟨rfl, hbw⟩
  replace B0 := Lib.hid (B0.out.on hbw)
  replace B1 := Lib.hid (B1.out.on hbw)
  replace B2 := Lib.hid (B2.out.on hbw)
  replace B4 := Lib.hid (B4.out.on hbw)
  replace BL := Lib.hid (BL.out.trans (hbw.mono BL.out.size))
  clear hK hbw
  by_cases h91 : next s1 = 91
  · have e91 : (next s1 == 91) = true := by rw [h91]; rfl
    have hal : allows s1 = ((list allow 44 (tl s1)).1, need (list allow 44 (tl s1)).2 93) := if_pos h91
    rw [hal] at HQ
    simp only at HQ
    clear hal
    have HL := Lib.hid (show (list allow 44 (tl s1)) = list allow 44 (tl s1) from rfl)
    generalize hr : list allow 44 (tl s1) = r at *
    clear HL
    have H0 : Dr c o x A r true [] none 0 s1 w6 :=
      ⟨B0.out, B1.out, B2.out, B4.out, BL.out, RowX.nil _ _ _ _ _, hs1, by rw [if_pos rfl]; exact ⟨by rw [h91]; decide, by rw [hr]; simp⟩, by have := dlen hs1; have := h.len; simp; omega⟩
    replace H0 := Lib.hid H0
    clear hr B0 B1 B2 B4 BL
    go_wp2_with fail
    go_loopg [5] s1.rest.length (fun q lv wr => ∃ (more : Bool) (l : List Al) (lo : Option Addr) (lc : Nat) (si : St), q = si.rest.length ∧ lv = .bool more ∧ Hid (Dr c o x A r more l lo lc si wr))
    case atStart => exact ⟨true, [], none, 0, s1, rfl, rfl, H0⟩
    case round =>
      clear H0 e91 h91 hs1
      obtain ⟨more, l, lo, lc, si, rfl, rfl, HA⟩ := hrel
      have B0 := Lib.hid HA.out.b0
      have B1 := Lib.hid HA.out.b1
      have B2 := Lib.hid HA.out.b2
      have B4 := Lib.hid HA.out.b4
      have BL := Lib.hid HA.out.below
      have HR := Lib.hid HA.out.row
      have hsi := HA.out.suf
      have HM := Lib.hid HA.out.more
      have HLe := Lib.hid HA.out.len
      have hl1 : l.length ≤ 10001 := by have := HA.out.len; omega
      clear HA
      cases more with
      | true =>
        have hm0 := HM.out
        rw [if_pos rfl] at hm0
        obtain ⟨hn0, hm⟩ := hm0
        have HMo := Lib.hid hm
        have HN0 := Lib.hid hn0
        clear HM hm
        have hst := stV_tl1 (o := o) hsi hn0
        have hw := at_wrap h si
        have hs_tl : (tl si).rest <:+ kt c.L := (tl_suf si).trans hsi
        clear hn0
        obtain ⟨q00, q01, q02, q03⟩ := B0.out.cells
        obtain ⟨f10, f11, f12, f13⟩ := B0.out.free
        have t1 : Turns (fun g => g = x.heap.size) wr (wr.setCell ⟨x.heap.size, 1, none⟩ (.int .i64 ((atN c si : Int) + 1))) := ((Turns.refl (fun g => g = x.heap.size) wr).setCell (p := ⟨x.heap.size, 1, none⟩) rfl (.int .i64 ((atN c si : Int) + 1)))
        replace B0 := Lib.hid (show C4 x.heap.size tSt (.slice c.ao c.L.length c.cap) (.int .i64 ((atN c si : Int) + 1)) (.int .i64 (o : Nat)) (.int .i64 (si.err : Nat)) (wr.setCell ⟨x.heap.size, 1, none⟩ (.int .i64 ((atN c si : Int) + 1))) from (Lib.heap_setCell_same (i := 1) B0.out (.int .i64 ((atN c si : Int) + 1))))
        replace B1 := Lib.hid (B1.out.turn t1 (by omega))
        replace B2 := Lib.hid (B2.out.turn t1 (by omega))
        replace B4 := Lib.hid (B4.out.turn t1 (by omega))
        replace HR := Lib.hid (HR.out.turn t1 fun g hg _ e => show False by omega)
        replace BL := Lib.hid (BL.out.trans (t1.below BL.out.size fun k hk => by omega))
        clear t1
        have al : Below (wr.setCell ⟨x.heap.size, 1, none⟩ (.int .i64 ((atN c si : Int) + 1))).heap.size (wr.setCell ⟨x.heap.size, 1, none⟩ (.int .i64 ((atN c si : Int) + 1))) ((wr.setCell ⟨x.heap.size, 1, none⟩ (.int .i64 ((atN c si : Int) + 1))).alloc (.cells #[.string ⟨#[]⟩, .string ⟨#[]⟩, .bool false] tAl)) := (Below.refl _ _).alloc (Nat.le_refl _) _
        have hnew := C3.new (wr.setCell ⟨x.heap.size, 1, none⟩ (.int .i64 ((atN c si : Int) + 1))) tAl (.string ⟨#[]⟩) (.string ⟨#[]⟩) (.bool false)
        have HB6 := Lib.hid (show x.heap.size + 4 ≤ (wr.setCell ⟨x.heap.size, 1, none⟩ (.int .i64 ((atN c si : Int) + 1))).heap.size ∧ (True) from by have := B0.out.lt; have := B4.out.lt; simp only [and_true]; omega)
        replace B0 := Lib.hid (B0.out.on al)
        replace B1 := Lib.hid (B1.out.on al)
        replace B2 := Lib.hid (B2.out.on al)
        replace B4 := Lib.hid (B4.out.on al)
        replace HR := Lib.hid ((HR.out.widen (X' := fun g => g = (wr.setCell ⟨x.heap.size, 1, none⟩ (.int .i64 ((atN c si : Int) + 1))).heap.size) fun g _ hl e => by omega).below al)
        replace BL := Lib.hid (BL.out.trans (al.mono BL.out.size))
        have B6 := Lib.hid hnew
        clear al hnew
        obtain ⟨q20, q21, q22, q23⟩ := B0.out.cells
        have hz : (wr.setCell ⟨x.heap.size, 1, none⟩ (.int .i64 ((atN c si : Int) + 1))).heap.size = wr.heap.size := by simp [World.setCell]
        rw [hz] at B6 HB6 HR
        clear hz
        go_wp2_with fail
        generalize ((wr.setCell ⟨x.heap.size, 1, none⟩ (.int .i64 ((atN c si : Int) + 1))).alloc (.cells #[.string ⟨#[]⟩, .string ⟨#[]⟩, .bool false] tAl)) = w7 at *
        clear q00 q01 q02 q03 f10 f11 f12 f13 hw q20 q21 q22 q23
        generalize wr.heap.size = R6 at *
        have HLw7 := Lib.hid B6.out.lt
        have hT := dallow_any (o := o) (h.below BL.out) hs_tl
        rw [hst] at hT
        have HLT := Lib.hid (show ∀ g, (Value.slice lo l.length lc).ownBlock = some g → g < w7.heap.size from fun g hg => (HR.out.own_lt hg).2)
        refine hT.mono ?_
        rintro e w8 ⟨v, rfl, hv, hbw⟩
        obtain rfl : v = alV (allow (tl si)).1 := hv
        have hs2 : (allow (tl si)).2.rest <:+ kt c.L := (allow_fine.suf _).trans hs_tl
        replace B0 := Lib.hid (B0.out.on hbw)
        replace B1 := Lib.hid (B1.out.on hbw)
        replace B2 := Lib.hid (B2.out.on hbw)
        replace B4 := Lib.hid (B4.out.on hbw)
        replace B6 := Lib.hid (B6.out.on hbw)
        replace HR := Lib.hid (HR.out.below hbw)
        replace BL := Lib.hid (BL.out.trans (hbw.mono BL.out.size))
        clear hT hbw hst
        have HLi := Lib.hid (show list allow 44 (tl si) = ((allow (tl si)).1 :: (eachs allow 44 (allow (tl si)).2).1, (eachs allow 44 (allow (tl si)).2).2) from rfl)
        have HSl := Lib.hid (show (allow (tl si)).2.rest.length < si.rest.length by have h2 := tl_len HN0.out; have h3 := (allow_fine.suf (tl si)).length_le; omega)
        generalize (allow (tl si)).2 = s2 at *
        generalize (allow (tl si)).1 = al at *
        obtain ⟨q30, q31, q32, q33⟩ := B0.out.cells
        obtain ⟨f40, f41, f42, f43⟩ := B0.out.free
        have t1 : Turns (fun g => g = x.heap.size) w8 ((((w8.setCell ⟨x.heap.size, 0, none⟩ (.slice c.ao c.L.length c.cap)).setCell ⟨x.heap.size, 1, none⟩ (.int .i64 (atN c s2 : Nat))).setCell ⟨x.heap.size, 2, none⟩ (.int .i64 (o : Nat))).setCell ⟨x.heap.size, 3, none⟩ (.int .i64 (s2.err : Nat))) := (((((Turns.refl (fun g => g = x.heap.size) w8).setCell (p := ⟨x.heap.size, 0, none⟩) rfl (.slice c.ao c.L.length c.cap)).setCell (p := ⟨x.heap.size, 1, none⟩) rfl (.int .i64 (atN c s2 : Nat))).setCell (p := ⟨x.heap.size, 2, none⟩) rfl (.int .i64 (o : Nat))).setCell (p := ⟨x.heap.size, 3, none⟩) rfl (.int .i64 (s2.err : Nat)))
        replace B0 := Lib.hid (show C4 x.heap.size tSt (.slice c.ao c.L.length c.cap) (.int .i64 (atN c s2 : Nat)) (.int .i64 (o : Nat)) (.int .i64 (s2.err : Nat)) ((((w8.setCell ⟨x.heap.size, 0, none⟩ (.slice c.ao c.L.length c.cap)).setCell ⟨x.heap.size, 1, none⟩ (.int .i64 (atN c s2 : Nat))).setCell ⟨x.heap.size, 2, none⟩ (.int .i64 (o : Nat))).setCell ⟨x.heap.size, 3, none⟩ (.int .i64 (s2.err : Nat))) from (Lib.heap_setCell_same (i := 3) (Lib.heap_setCell_same (i := 2) (Lib.heap_setCell_same (i := 1) (Lib.heap_setCell_same (i := 0) B0.out (.slice c.ao c.L.length c.cap)) (.int .i64 (atN c s2 : Nat))) (.int .i64 (o : Nat))) (.int .i64 (s2.err : Nat))))
        replace B1 := Lib.hid (B1.out.turn t1 (by have := HB6.out; omega))
        replace B2 := Lib.hid (B2.out.turn t1 (by have := HB6.out; omega))
        replace B4 := Lib.hid (B4.out.turn t1 (by have := HB6.out; omega))
        replace B6 := Lib.hid (B6.out.turn t1 (by have := HB6.out; omega))
        replace HR := Lib.hid (HR.out.turn t1 fun g hg _ e => show g = R6 by have := HB6.out; omega)
        replace BL := Lib.hid (BL.out.trans (t1.below BL.out.size fun k hk => by have := HB6.out; omega))
        clear t1
        obtain ⟨q50, q51, q52⟩ := B6.out.cells
        obtain ⟨f60, f61, f62⟩ := B6.out.free
        have t1 : Turns (fun g => g = R6) ((((w8.setCell ⟨x.heap.size, 0, none⟩ (.slice c.ao c.L.length c.cap)).setCell ⟨x.heap.size, 1, none⟩ (.int .i64 (atN c s2 : Nat))).setCell ⟨x.heap.size, 2, none⟩ (.int .i64 (o : Nat))).setCell ⟨x.heap.size, 3, none⟩ (.int .i64 (s2.err : Nat))) (((((((w8.setCell ⟨x.heap.size, 0, none⟩ (.slice c.ao c.L.length c.cap)).setCell ⟨x.heap.size, 1, none⟩ (.int .i64 (atN c s2 : Nat))).setCell ⟨x.heap.size, 2, none⟩ (.int .i64 (o : Nat))).setCell ⟨x.heap.size, 3, none⟩ (.int .i64 (s2.err : Nat))).setCell ⟨R6, 0, none⟩ (.string al.ty)).setCell ⟨R6, 1, none⟩ (.string al.rel)).setCell ⟨R6, 2, none⟩ (.bool al.wild)) := ((((Turns.refl (fun g => g = R6) ((((w8.setCell ⟨x.heap.size, 0, none⟩ (.slice c.ao c.L.length c.cap)).setCell ⟨x.heap.size, 1, none⟩ (.int .i64 (atN c s2 : Nat))).setCell ⟨x.heap.size, 2, none⟩ (.int .i64 (o : Nat))).setCell ⟨x.heap.size, 3, none⟩ (.int .i64 (s2.err : Nat)))).setCell (p := ⟨R6, 0, none⟩) rfl (.string al.ty)).setCell (p := ⟨R6, 1, none⟩) rfl (.string al.rel)).setCell (p := ⟨R6, 2, none⟩) rfl (.bool al.wild))
        replace B0 := Lib.hid (B0.out.turn t1 (by have := HB6.out; omega))
        replace B1 := Lib.hid (B1.out.turn t1 (by have := HB6.out; omega))
        replace B2 := Lib.hid (B2.out.turn t1 (by have := HB6.out; omega))
        replace B4 := Lib.hid (B4.out.turn t1 (by have := HB6.out; omega))
        replace B6 := Lib.hid (show C3 R6 tAl (.string al.ty) (.string al.rel) (.bool al.wild) (((((((w8.setCell ⟨x.heap.size, 0, none⟩ (.slice c.ao c.L.length c.cap)).setCell ⟨x.heap.size, 1, none⟩ (.int .i64 (atN c s2 : Nat))).setCell ⟨x.heap.size, 2, none⟩ (.int .i64 (o : Nat))).setCell ⟨x.heap.size, 3, none⟩ (.int .i64 (s2.err : Nat))).setCell ⟨R6, 0, none⟩ (.string al.ty)).setCell ⟨R6, 1, none⟩ (.string al.rel)).setCell ⟨R6, 2, none⟩ (.bool al.wild)) from (Lib.heap_setCell_same (i := 2) (Lib.heap_setCell_same (i := 1) (Lib.heap_setCell_same (i := 0) B6.out (.string al.ty)) (.string al.rel)) (.bool al.wild)))
        replace HR := Lib.hid (HR.out.turn t1 fun g hg _ e => show g = R6 by have := HB6.out; omega)
        replace BL := Lib.hid (BL.out.trans (t1.below BL.out.size fun k hk => by have := HB6.out; omega))
        clear t1
        obtain ⟨q70, q71, q72, q73, q74, q75⟩ := B4.out.cells
        obtain ⟨q80, q81, q82⟩ := B6.out.cells
        go_upto_region 10 with fail
        generalize (((((((w8.setCell ⟨x.heap.size, 0, none⟩ (.slice c.ao c.L.length c.cap)).setCell ⟨x.heap.size, 1, none⟩ (.int .i64 (atN c s2 : Nat))).setCell ⟨x.heap.size, 2, none⟩ (.int .i64 (o : Nat))).setCell ⟨x.heap.size, 3, none⟩ (.int .i64 (s2.err : Nat))).setCell ⟨R6, 0, none⟩ (.string al.ty)).setCell ⟨R6, 1, none⟩ (.string al.rel)).setCell ⟨R6, 2, none⟩ (.bool al.wild)) = w9 at *
        clear q30 q31 q32 q33 f40 f41 f42 f43 q50 q51 q52 f60 f61 f62
        have al2 : Below w9.heap.size w9 (w9.alloc (.cells #[.string al.ty, .string al.rel, .bool al.wild] tAl)) := (Below.refl _ _).alloc (Nat.le_refl _) _
        replace B0 := Lib.hid (B0.out.on al2)
        replace B1 := Lib.hid (B1.out.on al2)
        replace B2 := Lib.hid (B2.out.on al2)
        replace B4 := Lib.hid (B4.out.on al2)
        replace B6 := Lib.hid (B6.out.on al2)
        replace HR := Lib.hid (HR.out.below al2)
        replace BL := Lib.hid (BL.out.trans (al2.mono BL.out.size))
        have hnew : ((w9.alloc (.cells #[.string al.ty, .string al.rel, .bool al.wild] tAl))).heap[w9.heap.size]? = some (.cells (alV al).cells tAl (0, 0)) := heap_alloc_new w9 _
        have HNew := Lib.hid hnew
        have HW := Lib.hid (show x.heap.size + 4 ≤ ((w9.alloc (.cells #[.string al.ty, .string al.rel, .bool al.wild] tAl))).heap.size by have := B4.out.lt; omega)
        have HXn := Lib.hid (show ∀ g, ((w9.alloc (.cells #[.string al.ty, .string al.rel, .bool al.wild] tAl))).heap.size ≤ g → ¬ g = R6 from fun g hg e => by have := B6.out.lt; omega)
        have HC := Lib.hid (show x.heap.size + 4 ≤ w7.heap.size by have h1 := HB6.out; have h2 := BL.out.size; exact Nat.le_trans h1.1 (Nat.le_of_lt HLw7.out))
        clear al2 hnew
        obtain ⟨ti, tz, tb, TE, hTb⟩ := elA
        have HO := Lib.hid (And.intro TE hTb)
        clear TE hTb
        go_wp2_with (at_builtin; refine walk_add (E := allowE) (v := .slice lo l.length lc) (X := fun g => g = R6) (C := w7.heap.size) (u := alV al) HO.out.1 HO.out.2 rfl _ _ rfl rfl rfl HR.out HNew.out rfl HC.out HLT.out HW.out HXn.out (by omega) ?_)
        intro va y HR2 ht
        have hX : ∀ g, (Value.slice lo l.length lc).ownBlock = some g → x.heap.size + 4 ≤ g ∧ g ≠ R6 := fun g hg => ⟨(HR.out.own_lt hg).1, HR.out.1 g hg⟩
        replace B0 := Lib.hid (B0.out.turn ht fun e => by have := hX _ e; omega)
        replace B1 := Lib.hid (B1.out.turn ht fun e => by have := hX _ e; omega)
        replace B2 := Lib.hid (B2.out.turn ht fun e => by have := hX _ e; omega)
        replace B4 := Lib.hid (B4.out.turn ht fun e => by have := hX _ e; omega)
        replace B6 := Lib.hid (B6.out.turn ht fun e => by have := hX _ e; omega)
        replace BL := Lib.hid (BL.out.trans (ht.below BL.out.size fun k hk => by have := hX _ hk; omega))
        generalize hl2 : l ++ [al] = l2 at *
        obtain ⟨lo2, lc2, rfl⟩ := HR2.slice
        replace HR := Lib.hid HR2
        clear q70 q71 q72 q73 q74 q75 q80 q81 q82
        clear HR2 ht hX HO HNew HXn HW HC HLT
        obtain ⟨q90, q91, q92, q93, q94, q95⟩ := B4.out.cells
        obtain ⟨f100, f101, f102, f103, f104, f105⟩ := B4.out.free
        have t1 : Turns (fun g => g = x.heap.size + 1 + 1 + 1) y (y.setCell ⟨x.heap.size + 1 + 1 + 1, 1, none⟩ (.slice lo2 l2.length lc2)) := ((Turns.refl (fun g => g = x.heap.size + 1 + 1 + 1) y).setCell (p := ⟨x.heap.size + 1 + 1 + 1, 1, none⟩) rfl (.slice lo2 l2.length lc2))
        replace B0 := Lib.hid (B0.out.turn t1 (by have := HB6.out; omega))
        replace B1 := Lib.hid (B1.out.turn t1 (by have := HB6.out; omega))
        replace B2 := Lib.hid (B2.out.turn t1 (by have := HB6.out; omega))
        replace B4 := Lib.hid (show C6 (x.heap.size + 1 + 1 + 1) tRl (.string A) (.slice lo2 l2.length lc2) (.int .i64 0) (.string ⟨#[]⟩) (.string ⟨#[]⟩) (.slice none 0 0) (y.setCell ⟨x.heap.size + 1 + 1 + 1, 1, none⟩ (.slice lo2 l2.length lc2)) from (Lib.heap_setCell_same (i := 1) B4.out (.slice lo2 l2.length lc2)))
        replace B6 := Lib.hid (B6.out.turn t1 (by have := HB6.out; omega))
        replace HR := Lib.hid (HR.out.turn t1 fun g hg _ e => show g = R6 by have := HB6.out; omega)
        replace BL := Lib.hid (BL.out.trans (t1.below BL.out.size fun k hk => by have := HB6.out; omega))
        clear t1
        obtain ⟨q110, q111, q112, q113⟩ := B0.out.cells
        go_wp2_with fail
        generalize (y.setCell ⟨x.heap.size + 1 + 1 + 1, 1, none⟩ (.slice lo2 l2.length lc2)) = w10 at *
        clear q90 q91 q92 q93 q94 q95 f100 f101 f102 f103 f104 f105 q110 q111 q112 q113
        have hK := dkind_any (o := o) (s := s2) (h.below BL.out) hs2
        refine hK.mono ?_
        rintro e w11 ⟨rfl, hbw⟩
        replace B0 := Lib.hid (B0.out.on hbw)
        replace B1 := Lib.hid (B1.out.on hbw)
        replace B2 := Lib.hid (B2.out.on hbw)
        replace B4 := Lib.hid (B4.out.on hbw)
        replace B6 := Lib.hid (B6.out.on hbw)
        replace HR := Lib.hid (HR.out.below hbw)
        replace BL := Lib.hid (BL.out.trans (hbw.mono BL.out.size))
        clear hK hbw
        have hA : Dr c o x A r (next s2 == 44) l2 lo2 lc2 s2 w11 := by
          refine ⟨B0.out, B1.out, B2.out, B4.out, BL.out, HR.out.widen fun _ _ _ hf => hf.elim, hs2, ?_, ?_⟩
          · rw [← HMo.out, HLi.out, ← hl2]
            by_cases h44 : next s2 = 44
            · rw [if_pos (by simpa using h44)]
              refine ⟨by rw [h44]; decide, ?_⟩
              rw [eachs_on allow_fine (by decide) h44]
              simp [list]
            · rw [if_neg (by simpa using h44), eachs_off h44]
          · rw [← hl2, List.length_append, List.length_singleton]
            have := HLe.out
            have := HSl.out
            omega
        replace hA := Lib.hid hA
        have hdec := HSl.out
        clear B0 B1 B2 B4 B6 BL HR HMo HLi HSl HLe HN0 HB6
        go_wp2_with fail
        go_roundg (s2.rest.length)
        case rel => exact ⟨_, _, _, _, _, rfl, rfl, hA⟩
        case measure => exact hdec
      | false =>
        have hm := HM.out
        rw [if_neg (by decide)] at hm
        subst hm
        simp only at HQ
        clear HM HLe
        obtain ⟨q00, q01, q02, q03⟩ := B0.out.cells
        go_wp2_with fail
        clear q00 q01 q02 q03
        have hT := dtake_any (o := o) (s := si) (h.below BL.out) hsi 93 (by decide)
        refine hT.mono ?_
        rintro e w7 ⟨rfl, hbw⟩
        have hs4 : (need si 93).rest <:+ kt c.L := (need_suf _ 93).trans hsi
        replace B0 := Lib.hid (B0.out.on hbw)
        replace B1 := Lib.hid (B1.out.on hbw)
        replace B2 := Lib.hid (B2.out.on hbw)
        replace B4 := Lib.hid (B4.out.on hbw)
        replace HR := Lib.hid (HR.out.below hbw)
        replace BL := Lib.hid (BL.out.trans (hbw.mono BL.out.size))
        clear hT hbw
        generalize tk si 93 = A9 at *
        generalize need si 93 = s4 at *
        obtain ⟨q10, q11, q12, q13⟩ := B0.out.cells
        obtain ⟨f20, f21, f22, f23⟩ := B0.out.free
        have t1 : Turns (fun g => g = x.heap.size) w7 ((((w7.setCell ⟨x.heap.size, 0, none⟩ (.slice c.ao c.L.length c.cap)).setCell ⟨x.heap.size, 1, none⟩ (.int .i64 (atN c s4 : Nat))).setCell ⟨x.heap.size, 2, none⟩ (.int .i64 (o : Nat))).setCell ⟨x.heap.size, 3, none⟩ (.int .i64 (s4.err : Nat))) := (((((Turns.refl (fun g => g = x.heap.size) w7).setCell (p := ⟨x.heap.size, 0, none⟩) rfl (.slice c.ao c.L.length c.cap)).setCell (p := ⟨x.heap.size, 1, none⟩) rfl (.int .i64 (atN c s4 : Nat))).setCell (p := ⟨x.heap.size, 2, none⟩) rfl (.int .i64 (o : Nat))).setCell (p := ⟨x.heap.size, 3, none⟩) rfl (.int .i64 (s4.err : Nat)))
        replace B0 := Lib.hid (show C4 x.heap.size tSt (.slice c.ao c.L.length c.cap) (.int .i64 (atN c s4 : Nat)) (.int .i64 (o : Nat)) (.int .i64 (s4.err : Nat)) ((((w7.setCell ⟨x.heap.size, 0, none⟩ (.slice c.ao c.L.length c.cap)).setCell ⟨x.heap.size, 1, none⟩ (.int .i64 (atN c s4 : Nat))).setCell ⟨x.heap.size, 2, none⟩ (.int .i64 (o : Nat))).setCell ⟨x.heap.size, 3, none⟩ (.int .i64 (s4.err : Nat))) from (Lib.heap_setCell_same (i := 3) (Lib.heap_setCell_same (i := 2) (Lib.heap_setCell_same (i := 1) (Lib.heap_setCell_same (i := 0) B0.out (.slice c.ao c.L.length c.cap)) (.int .i64 (atN c s4 : Nat))) (.int .i64 (o : Nat))) (.int .i64 (s4.err : Nat))))
        replace B1 := Lib.hid (B1.out.turn t1 (by omega))
        replace B2 := Lib.hid (B2.out.turn t1 (by omega))
        replace B4 := Lib.hid (B4.out.turn t1 (by omega))
        replace HR := Lib.hid (HR.out.turn t1 fun g hg _ e => show False by omega)
        replace BL := Lib.hid (BL.out.trans (t1.below BL.out.size fun k hk => by omega))
        clear t1
        obtain ⟨q30, q31, q32, q33⟩ := B0.out.cells
        go_wp2_with fail
        generalize ((((w7.setCell ⟨x.heap.size, 0, none⟩ (.slice c.ao c.L.length c.cap)).setCell ⟨x.heap.size, 1, none⟩ (.int .i64 (atN c s4 : Nat))).setCell ⟨x.heap.size, 2, none⟩ (.int .i64 (o : Nat))).setCell ⟨x.heap.size, 3, none⟩ (.int .i64 (s4.err : Nat))) = w8 at *
        clear q10 q11 q12 q13 f20 f21 f22 f23 q30 q31 q32 q33
        have hT := dtake_any (o := o) (s := s4) (h.below BL.out) hs4 61 (by decide)
        refine hT.mono ?_
        rintro e w20 ⟨rfl, hbw⟩
        have hs5 : (need s4 61).rest <:+ kt c.L := (need_suf _ 61).trans hs4
        replace B0 := Lib.hid (B0.out.on hbw)
        replace B1 := Lib.hid (B1.out.on hbw)
        replace B2 := Lib.hid (B2.out.on hbw)
        replace B4 := Lib.hid (B4.out.on hbw)
        replace HR := Lib.hid (HR.out.below hbw)
        replace BL := Lib.hid (BL.out.trans (hbw.mono BL.out.size))
        clear hT hbw
        generalize tk s4 61 = A1 at *
        generalize need s4 61 = s5 at *
        obtain ⟨q40, q41, q42, q43⟩ := B0.out.cells
        obtain ⟨f50, f51, f52, f53⟩ := B0.out.free
        have t1 : Turns (fun g => g = x.heap.size) w20 ((((w20.setCell ⟨x.heap.size, 0, none⟩ (.slice c.ao c.L.length c.cap)).setCell ⟨x.heap.size, 1, none⟩ (.int .i64 (atN c s5 : Nat))).setCell ⟨x.heap.size, 2, none⟩ (.int .i64 (o : Nat))).setCell ⟨x.heap.size, 3, none⟩ (.int .i64 (s5.err : Nat))) := (((((Turns.refl (fun g => g = x.heap.size) w20).setCell (p := ⟨x.heap.size, 0, none⟩) rfl (.slice c.ao c.L.length c.cap)).setCell (p := ⟨x.heap.size, 1, none⟩) rfl (.int .i64 (atN c s5 : Nat))).setCell (p := ⟨x.heap.size, 2, none⟩) rfl (.int .i64 (o : Nat))).setCell (p := ⟨x.heap.size, 3, none⟩) rfl (.int .i64 (s5.err : Nat)))
        replace B0 := Lib.hid (show C4 x.heap.size tSt (.slice c.ao c.L.length c.cap) (.int .i64 (atN c s5 : Nat)) (.int .i64 (o : Nat)) (.int .i64 (s5.err : Nat)) ((((w20.setCell ⟨x.heap.size, 0, none⟩ (.slice c.ao c.L.length c.cap)).setCell ⟨x.heap.size, 1, none⟩ (.int .i64 (atN c s5 : Nat))).setCell ⟨x.heap.size, 2, none⟩ (.int .i64 (o : Nat))).setCell ⟨x.heap.size, 3, none⟩ (.int .i64 (s5.err : Nat))) from (Lib.heap_setCell_same (i := 3) (Lib.heap_setCell_same (i := 2) (Lib.heap_setCell_same (i := 1) (Lib.heap_setCell_same (i := 0) B0.out (.slice c.ao c.L.length c.cap)) (.int .i64 (atN c s5 : Nat))) (.int .i64 (o : Nat))) (.int .i64 (s5.err : Nat))))
        replace B1 := Lib.hid (B1.out.turn t1 (by omega))
        replace B2 := Lib.hid (B2.out.turn t1 (by omega))
        replace B4 := Lib.hid (B4.out.turn t1 (by omega))
        replace HR := Lib.hid (HR.out.turn t1 fun g hg _ e => show False by omega)
        replace BL := Lib.hid (BL.out.trans (t1.below BL.out.size fun k hk => by omega))
        clear t1
        obtain ⟨q60, q61, q62, q63⟩ := B0.out.cells
        go_wp2_with fail
        generalize ((((w20.setCell ⟨x.heap.size, 0, none⟩ (.slice c.ao c.L.length c.cap)).setCell ⟨x.heap.size, 1, none⟩ (.int .i64 (atN c s5 : Nat))).setCell ⟨x.heap.size, 2, none⟩ (.int .i64 (o : Nat))).setCell ⟨x.heap.size, 3, none⟩ (.int .i64 (s5.err : Nat))) = w21 at *
        clear q40 q41 q42 q43 f50 f51 f52 f53 q60 q61 q62 q63
        refine (hU s5 _ (h.below BL.out) hs5).mono ?_
        rintro e w22 ⟨v, rfl, hv, hbw⟩
        have hs6 : (union s5).2.rest <:+ kt c.L := ((union_fine (brk_fine 8)).suf s5).trans hs5
        have hv' : NodeS (fun g => w21.heap.size ≤ g) w22 (union s5).1 v := hv
        have HLw := Lib.hid (show x.heap.size + 4 ≤ w21.heap.size by have := B4.out.lt; omega)
        replace B0 := Lib.hid (B0.out.on hbw)
        replace B1 := Lib.hid (B1.out.on hbw)
        replace B2 := Lib.hid (B2.out.on hbw)
        replace B4 := Lib.hid (B4.out.on hbw)
        replace HR := Lib.hid (HR.out.below hbw)
        replace BL := Lib.hid (BL.out.trans (hbw.mono BL.out.size))
        clear hv hbw
        generalize (union s5).2 = s6 at *
        generalize (union s5).1 = n at *
        obtain ⟨no, nc, us, rfl, -⟩ := hv'.open
        have HN := Lib.hid (hv'.sub (S' := fun g => x.heap.size + 4 ≤ g) fun g hg _ => by have := HLw.out; omega)
        clear hv' HLw
        obtain ⟨q70, q71, q72, q73⟩ := B0.out.cells
        obtain ⟨f80, f81, f82, f83⟩ := B0.out.free
        have t1 : Turns (fun g => g = x.heap.size) w22 ((((w22.setCell ⟨x.heap.size, 0, none⟩ (.slice c.ao c.L.length c.cap)).setCell ⟨x.heap.size, 1, none⟩ (.int .i64 (atN c s6 : Nat))).setCell ⟨x.heap.size, 2, none⟩ (.int .i64 (o : Nat))).setCell ⟨x.heap.size, 3, none⟩ (.int .i64 (s6.err : Nat))) := (((((Turns.refl (fun g => g = x.heap.size) w22).setCell (p := ⟨x.heap.size, 0, none⟩) rfl (.slice c.ao c.L.length c.cap)).setCell (p := ⟨x.heap.size, 1, none⟩) rfl (.int .i64 (atN c s6 : Nat))).setCell (p := ⟨x.heap.size, 2, none⟩) rfl (.int .i64 (o : Nat))).setCell (p := ⟨x.heap.size, 3, none⟩) rfl (.int .i64 (s6.err : Nat)))
        replace B0 := Lib.hid (show C4 x.heap.size tSt (.slice c.ao c.L.length c.cap) (.int .i64 (atN c s6 : Nat)) (.int .i64 (o : Nat)) (.int .i64 (s6.err : Nat)) ((((w22.setCell ⟨x.heap.size, 0, none⟩ (.slice c.ao c.L.length c.cap)).setCell ⟨x.heap.size, 1, none⟩ (.int .i64 (atN c s6 : Nat))).setCell ⟨x.heap.size, 2, none⟩ (.int .i64 (o : Nat))).setCell ⟨x.heap.size, 3, none⟩ (.int .i64 (s6.err : Nat))) from (Lib.heap_setCell_same (i := 3) (Lib.heap_setCell_same (i := 2) (Lib.heap_setCell_same (i := 1) (Lib.heap_setCell_same (i := 0) B0.out (.slice c.ao c.L.length c.cap)) (.int .i64 (atN c s6 : Nat))) (.int .i64 (o : Nat))) (.int .i64 (s6.err : Nat))))
        replace B1 := Lib.hid (B1.out.turn t1 (by omega))
        replace B2 := Lib.hid (B2.out.turn t1 (by omega))
        replace B4 := Lib.hid (B4.out.turn t1 (by omega))
        replace HN := Lib.hid (HN.out.turn t1 (fun g hg _ => by omega) fun g hg _ => hg)
        replace HR := Lib.hid (HR.out.turn t1 fun g hg _ e => show False by omega)
        replace BL := Lib.hid (BL.out.trans (t1.below BL.out.size fun k hk => by omega))
        clear t1
        obtain ⟨q90, q91, q92, q93, q94, q95⟩ := B4.out.cells
        obtain ⟨f100, f101, f102, f103, f104, f105⟩ := B4.out.free
        have t1 : Turns (fun g => g = x.heap.size + 1 + 1 + 1) ((((w22.setCell ⟨x.heap.size, 0, none⟩ (.slice c.ao c.L.length c.cap)).setCell ⟨x.heap.size, 1, none⟩ (.int .i64 (atN c s6 : Nat))).setCell ⟨x.heap.size, 2, none⟩ (.int .i64 (o : Nat))).setCell ⟨x.heap.size, 3, none⟩ (.int .i64 (s6.err : Nat))) ((((((((w22.setCell ⟨x.heap.size, 0, none⟩ (.slice c.ao c.L.length c.cap)).setCell ⟨x.heap.size, 1, none⟩ (.int .i64 (atN c s6 : Nat))).setCell ⟨x.heap.size, 2, none⟩ (.int .i64 (o : Nat))).setCell ⟨x.heap.size, 3, none⟩ (.int .i64 (s6.err : Nat))).setCell ⟨x.heap.size + 1 + 1 + 1, 2, none⟩ (.int .i64 n.kind)).setCell ⟨x.heap.size + 1 + 1 + 1, 3, none⟩ (.string n.ta)).setCell ⟨x.heap.size + 1 + 1 + 1, 4, none⟩ (.string n.tb)).setCell ⟨x.heap.size + 1 + 1 + 1, 5, none⟩ (.slice no n.kids.length nc)) := (((((Turns.refl (fun g => g = x.heap.size + 1 + 1 + 1) ((((w22.setCell ⟨x.heap.size, 0, none⟩ (.slice c.ao c.L.length c.cap)).setCell ⟨x.heap.size, 1, none⟩ (.int .i64 (atN c s6 : Nat))).setCell ⟨x.heap.size, 2, none⟩ (.int .i64 (o : Nat))).setCell ⟨x.heap.size, 3, none⟩ (.int .i64 (s6.err : Nat)))).setCell (p := ⟨x.heap.size + 1 + 1 + 1, 2, none⟩) rfl (.int .i64 n.kind)).setCell (p := ⟨x.heap.size + 1 + 1 + 1, 3, none⟩) rfl (.string n.ta)).setCell (p := ⟨x.heap.size + 1 + 1 + 1, 4, none⟩) rfl (.string n.tb)).setCell (p := ⟨x.heap.size + 1 + 1 + 1, 5, none⟩) rfl (.slice no n.kids.length nc))
        replace B0 := Lib.hid (B0.out.turn t1 (by omega))
        replace B1 := Lib.hid (B1.out.turn t1 (by omega))
        replace B2 := Lib.hid (B2.out.turn t1 (by omega))
        replace B4 := Lib.hid (show C6 (x.heap.size + 1 + 1 + 1) tRl (.string A) (.slice lo l.length lc) (.int .i64 n.kind) (.string n.ta) (.string n.tb) (.slice no n.kids.length nc) ((((((((w22.setCell ⟨x.heap.size, 0, none⟩ (.slice c.ao c.L.length c.cap)).setCell ⟨x.heap.size, 1, none⟩ (.int .i64 (atN c s6 : Nat))).setCell ⟨x.heap.size, 2, none⟩ (.int .i64 (o : Nat))).setCell ⟨x.heap.size, 3, none⟩ (.int .i64 (s6.err : Nat))).setCell ⟨x.heap.size + 1 + 1 + 1, 2, none⟩ (.int .i64 n.kind)).setCell ⟨x.heap.size + 1 + 1 + 1, 3, none⟩ (.string n.ta)).setCell ⟨x.heap.size + 1 + 1 + 1, 4, none⟩ (.string n.tb)).setCell ⟨x.heap.size + 1 + 1 + 1, 5, none⟩ (.slice no n.kids.length nc)) from (Lib.heap_setCell_same (i := 5) (Lib.heap_setCell_same (i := 4) (Lib.heap_setCell_same (i := 3) (Lib.heap_setCell_same (i := 2) B4.out (.int .i64 n.kind)) (.string n.ta)) (.string n.tb)) (.slice no n.kids.length nc)))
        replace HN := Lib.hid (HN.out.turn t1 (fun g hg _ => by omega) fun g hg _ => hg)
        replace HR := Lib.hid (HR.out.turn t1 fun g hg _ e => show False by omega)
        replace BL := Lib.hid (BL.out.trans (t1.below BL.out.size fun k hk => by omega))
        clear t1
        obtain ⟨q110, q111, q112, q113⟩ := B0.out.cells
        go_wp2_with fail
        generalize ((((((((w22.setCell ⟨x.heap.size, 0, none⟩ (.slice c.ao c.L.length c.cap)).setCell ⟨x.heap.size, 1, none⟩ (.int .i64 (atN c s6 : Nat))).setCell ⟨x.heap.size, 2, none⟩ (.int .i64 (o : Nat))).setCell ⟨x.heap.size, 3, none⟩ (.int .i64 (s6.err : Nat))).setCell ⟨x.heap.size + 1 + 1 + 1, 2, none⟩ (.int .i64 n.kind)).setCell ⟨x.heap.size + 1 + 1 + 1, 3, none⟩ (.string n.ta)).setCell ⟨x.heap.size + 1 + 1 + 1, 4, none⟩ (.string n.tb)).setCell ⟨x.heap.size + 1 + 1 + 1, 5, none⟩ (.slice no n.kids.length nc)) = w23 at *
        clear q70 q71 q72 q73 f80 f81 f82 f83 q90 q91 q92 q93 q94 q95 f100 f101 f102 f103 f104 f105 q110 q111 q112 q113
        have hT := dtake_any (o := o) (s := s6) (h.below BL.out) hs6 59 (by decide)
        refine hT.mono ?_
        rintro e w24 ⟨rfl, hbw⟩
        have hs7 : (need s6 59).rest <:+ kt c.L := (need_suf _ 59).trans hs6
        replace B0 := Lib.hid (B0.out.on hbw)
        replace B1 := Lib.hid (B1.out.on hbw)
        replace B2 := Lib.hid (B2.out.on hbw)
        replace B4 := Lib.hid (B4.out.on hbw)
        replace HN := Lib.hid (NodeS.below HN.out hbw)
        replace HR := Lib.hid (HR.out.below hbw)
        replace BL := Lib.hid (BL.out.trans (hbw.mono BL.out.size))
        clear hT hbw
        generalize tk s6 59 = A2 at *
        generalize need s6 59 = s7 at *
        obtain ⟨q120, q121, q122, q123⟩ := B0.out.cells
        obtain ⟨f130, f131, f132, f133⟩ := B0.out.free
        have t1 : Turns (fun g => g = x.heap.size) w24 ((((w24.setCell ⟨x.heap.size, 0, none⟩ (.slice c.ao c.L.length c.cap)).setCell ⟨x.heap.size, 1, none⟩ (.int .i64 (atN c s7 : Nat))).setCell ⟨x.heap.size, 2, none⟩ (.int .i64 (o : Nat))).setCell ⟨x.heap.size, 3, none⟩ (.int .i64 (s7.err : Nat))) := (((((Turns.refl (fun g => g = x.heap.size) w24).setCell (p := ⟨x.heap.size, 0, none⟩) rfl (.slice c.ao c.L.length c.cap)).setCell (p := ⟨x.heap.size, 1, none⟩) rfl (.int .i64 (atN c s7 : Nat))).setCell (p := ⟨x.heap.size, 2, none⟩) rfl (.int .i64 (o : Nat))).setCell (p := ⟨x.heap.size, 3, none⟩) rfl (.int .i64 (s7.err : Nat)))
        replace B0 := Lib.hid (show C4 x.heap.size tSt (.slice c.ao c.L.length c.cap) (.int .i64 (atN c s7 : Nat)) (.int .i64 (o : Nat)) (.int .i64 (s7.err : Nat)) ((((w24.setCell ⟨x.heap.size, 0, none⟩ (.slice c.ao c.L.length c.cap)).setCell ⟨x.heap.size, 1, none⟩ (.int .i64 (atN c s7 : Nat))).setCell ⟨x.heap.size, 2, none⟩ (.int .i64 (o : Nat))).setCell ⟨x.heap.size, 3, none⟩ (.int .i64 (s7.err : Nat))) from (Lib.heap_setCell_same (i := 3) (Lib.heap_setCell_same (i := 2) (Lib.heap_setCell_same (i := 1) (Lib.heap_setCell_same (i := 0) B0.out (.slice c.ao c.L.length c.cap)) (.int .i64 (atN c s7 : Nat))) (.int .i64 (o : Nat))) (.int .i64 (s7.err : Nat))))
        replace B1 := Lib.hid (B1.out.turn t1 (by omega))
        replace B2 := Lib.hid (B2.out.turn t1 (by omega))
        replace B4 := Lib.hid (B4.out.turn t1 (by omega))
        replace HN := Lib.hid (HN.out.turn t1 (fun g hg _ => by omega) fun g hg _ => hg)
        replace HR := Lib.hid (HR.out.turn t1 fun g hg _ e => show False by omega)
        replace BL := Lib.hid (BL.out.trans (t1.below BL.out.size fun k hk => by omega))
        clear t1
        go_wp2_with fail
        generalize ((((w24.setCell ⟨x.heap.size, 0, none⟩ (.slice c.ao c.L.length c.cap)).setCell ⟨x.heap.size, 1, none⟩ (.int .i64 (atN c s7 : Nat))).setCell ⟨x.heap.size, 2, none⟩ (.int .i64 (o : Nat))).setCell ⟨x.heap.size, 3, none⟩ (.int .i64 (s7.err : Nat))) = w25 at *
        clear q120 q121 q122 q123 f130 f131 f132 f133
        replace B0 := Lib.hid (B0.out.on (Below.refl _ _).drew)
        replace B1 := Lib.hid (B1.out.on (Below.refl _ _).drew)
        replace B2 := Lib.hid (B2.out.on (Below.refl _ _).drew)
        replace B4 := Lib.hid (B4.out.on (Below.refl _ _).drew)
        replace HN := Lib.hid (NodeS.below HN.out (Below.refl _ _).drew)
        replace HR := Lib.hid (HR.out.below (Below.refl _ _).drew)
        replace BL := Lib.hid (BL.out.trans (((Below.refl w25.heap.size w25).drew).mono BL.out.size))
        refine Order.region_begin (S := Turns (Two x) w25.drew) (by kernel_rfl) ?_
        generalize w25.drew = w9 at *
        have HX := Lib.hid (show ∀ z, Turns (Two x) w9 z → _ from fun z hz => And.intro (B0.out.turn hz (by omega)).cells (B4.out.turn hz (by omega)).cells)
        refine Order.reads_any (idx := [0, 1]) (by kernel_rfl) (Turns.refl _ _) (fun _ _ _ _ _ h => Order.noPanic_put h) 2 _ _ (by decide +kernel) ?_
        simp only [Order.pick, List.getElem?_toArray, List.getElem?_cons_zero, List.getElem?_cons_succ]
        repeat (first
          | (refine Order.reads_off (by rfl) ?_
             simp only [Act.put, List.setIfInBounds_toArray, List.set_cons_zero, List.set_cons_succ])
          | (apply Order.reads_on
             · rfl
             · intro x hx
               first
                 | (go_simp; rfl)
                 | (obtain ⟨⟨i0, i1, i2, i3⟩, i4, i5, i6, i7, i8, i9⟩ := HX.out x hx
                    go_simp; rfl)
             simp only [Act.put, List.setIfInBounds_toArray, List.set_cons_zero, List.set_cons_succ]))
        refine Order.reads_end ?_
        clear HX
        obtain ⟨q140, q141, q142, q143⟩ := B1.out.cells
        obtain ⟨f150, f151, f152, f153⟩ := B1.out.free
        have t1 : Turns (fun g => g = x.heap.size + 1) w9 ((((w9.setCell ⟨x.heap.size + 1, 0, none⟩ (.slice c.ao c.L.length c.cap)).setCell ⟨x.heap.size + 1, 1, none⟩ (.int .i64 (atN c s7 : Nat))).setCell ⟨x.heap.size + 1, 2, none⟩ (.int .i64 (o : Nat))).setCell ⟨x.heap.size + 1, 3, none⟩ (.int .i64 (s7.err : Nat))) := (((((Turns.refl (fun g => g = x.heap.size + 1) w9).setCell (p := ⟨x.heap.size + 1, 0, none⟩) rfl (.slice c.ao c.L.length c.cap)).setCell (p := ⟨x.heap.size + 1, 1, none⟩) rfl (.int .i64 (atN c s7 : Nat))).setCell (p := ⟨x.heap.size + 1, 2, none⟩) rfl (.int .i64 (o : Nat))).setCell (p := ⟨x.heap.size + 1, 3, none⟩) rfl (.int .i64 (s7.err : Nat)))
        replace B1 := Lib.hid (show C4 (x.heap.size + 1) tSt (.slice c.ao c.L.length c.cap) (.int .i64 (atN c s7 : Nat)) (.int .i64 (o : Nat)) (.int .i64 (s7.err : Nat)) ((((w9.setCell ⟨x.heap.size + 1, 0, none⟩ (.slice c.ao c.L.length c.cap)).setCell ⟨x.heap.size + 1, 1, none⟩ (.int .i64 (atN c s7 : Nat))).setCell ⟨x.heap.size + 1, 2, none⟩ (.int .i64 (o : Nat))).setCell ⟨x.heap.size + 1, 3, none⟩ (.int .i64 (s7.err : Nat))) from (Lib.heap_setCell_same (i := 3) (Lib.heap_setCell_same (i := 2) (Lib.heap_setCell_same (i := 1) (Lib.heap_setCell_same (i := 0) B1.out (.slice c.ao c.L.length c.cap)) (.int .i64 (atN c s7 : Nat))) (.int .i64 (o : Nat))) (.int .i64 (s7.err : Nat))))
        replace B2 := Lib.hid (B2.out.turn t1 (by omega))
        replace HN := Lib.hid (HN.out.turn t1 (fun g hg _ => by omega) fun g hg _ => hg)
        replace HR := Lib.hid (HR.out.turn t1 fun g hg _ e => show False by omega)
        replace BL := Lib.hid (BL.out.trans (t1.below BL.out.size fun k hk => by omega))
        clear t1
        have HT := Lib.hid (show Turns (Two x) w9 ((((w9.setCell ⟨x.heap.size + 1, 0, none⟩ (.slice c.ao c.L.length c.cap)).setCell ⟨x.heap.size + 1, 1, none⟩ (.int .i64 (atN c s7 : Nat))).setCell ⟨x.heap.size + 1, 2, none⟩ (.int .i64 (o : Nat))).setCell ⟨x.heap.size + 1, 3, none⟩ (.int .i64 (s7.err : Nat))) from Turns.mono (G := Two x) (((((Turns.refl (fun g => g = x.heap.size + 1) w9).setCell (p := ⟨x.heap.size + 1, 0, none⟩) rfl (.slice c.ao c.L.length c.cap)).setCell (p := ⟨x.heap.size + 1, 1, none⟩) rfl (.int .i64 (atN c s7 : Nat))).setCell (p := ⟨x.heap.size + 1, 2, none⟩) rfl (.int .i64 (o : Nat))).setCell (p := ⟨x.heap.size + 1, 3, none⟩) rfl (.int .i64 (s7.err : Nat))) fun _ _ h => .inl h)
        apply Order.acts_any (R := (Turns (Two x))) (fun h k => h.trans k fun _ _ h => h) (i := 2)
        · rfl
        · decide +kernel
        · rfl
        unfold Oper.wp
        go_simp
        refine ⟨HT.out, ?_⟩
        generalize ((((w9.setCell ⟨x.heap.size + 1, 0, none⟩ (.slice c.ao c.L.length c.cap)).setCell ⟨x.heap.size + 1, 1, none⟩ (.int .i64 (atN c s7 : Nat))).setCell ⟨x.heap.size + 1, 2, none⟩ (.int .i64 (o : Nat))).setCell ⟨x.heap.size + 1, 3, none⟩ (.int .i64 (s7.err : Nat))) = w10 at *
        clear HT
        clear q140 q141 q142 q143 f150 f151 f152 f153
        obtain ⟨q160, q161, q162, q163, q164, q165⟩ := B2.out.cells
        obtain ⟨f170, f171, f172, f173, f174, f175⟩ := B2.out.free
        have t1 : Turns (fun g => g = x.heap.size + 1 + 1) w10 ((((((w10.setCell ⟨x.heap.size + 1 + 1, 0, none⟩ (.string A)).setCell ⟨x.heap.size + 1 + 1, 1, none⟩ (.slice lo l.length lc)).setCell ⟨x.heap.size + 1 + 1, 2, none⟩ (.int .i64 n.kind)).setCell ⟨x.heap.size + 1 + 1, 3, none⟩ (.string n.ta)).setCell ⟨x.heap.size + 1 + 1, 4, none⟩ (.string n.tb)).setCell ⟨x.heap.size + 1 + 1, 5, none⟩ (.slice no n.kids.length nc)) := (((((((Turns.refl (fun g => g = x.heap.size + 1 + 1) w10).setCell (p := ⟨x.heap.size + 1 + 1, 0, none⟩) rfl (.string A)).setCell (p := ⟨x.heap.size + 1 + 1, 1, none⟩) rfl (.slice lo l.length lc)).setCell (p := ⟨x.heap.size + 1 + 1, 2, none⟩) rfl (.int .i64 n.kind)).setCell (p := ⟨x.heap.size + 1 + 1, 3, none⟩) rfl (.string n.ta)).setCell (p := ⟨x.heap.size + 1 + 1, 4, none⟩) rfl (.string n.tb)).setCell (p := ⟨x.heap.size + 1 + 1, 5, none⟩) rfl (.slice no n.kids.length nc))
        replace B1 := Lib.hid (B1.out.turn t1 (by omega))
        replace B2 := Lib.hid (show C6 (x.heap.size + 1 + 1) tRl (.string A) (.slice lo l.length lc) (.int .i64 n.kind) (.string n.ta) (.string n.tb) (.slice no n.kids.length nc) ((((((w10.setCell ⟨x.heap.size + 1 + 1, 0, none⟩ (.string A)).setCell ⟨x.heap.size + 1 + 1, 1, none⟩ (.slice lo l.length lc)).setCell ⟨x.heap.size + 1 + 1, 2, none⟩ (.int .i64 n.kind)).setCell ⟨x.heap.size + 1 + 1, 3, none⟩ (.string n.ta)).setCell ⟨x.heap.size + 1 + 1, 4, none⟩ (.string n.tb)).setCell ⟨x.heap.size + 1 + 1, 5, none⟩ (.slice no n.kids.length nc)) from (Lib.heap_setCell_same (i := 5) (Lib.heap_setCell_same (i := 4) (Lib.heap_setCell_same (i := 3) (Lib.heap_setCell_same (i := 2) (Lib.heap_setCell_same (i := 1) (Lib.heap_setCell_same (i := 0) B2.out (.string A)) (.slice lo l.length lc)) (.int .i64 n.kind)) (.string n.ta)) (.string n.tb)) (.slice no n.kids.length nc)))
        replace HN := Lib.hid (HN.out.turn t1 (fun g hg _ => by omega) fun g hg _ => hg)
        replace HR := Lib.hid (HR.out.turn t1 fun g hg _ e => show False by omega)
        replace BL := Lib.hid (BL.out.trans (t1.below BL.out.size fun k hk => by omega))
        clear t1
        have HT := Lib.hid (show Turns (Two x) w10 ((((((w10.setCell ⟨x.heap.size + 1 + 1, 0, none⟩ (.string A)).setCell ⟨x.heap.size + 1 + 1, 1, none⟩ (.slice lo l.length lc)).setCell ⟨x.heap.size + 1 + 1, 2, none⟩ (.int .i64 n.kind)).setCell ⟨x.heap.size + 1 + 1, 3, none⟩ (.string n.ta)).setCell ⟨x.heap.size + 1 + 1, 4, none⟩ (.string n.tb)).setCell ⟨x.heap.size + 1 + 1, 5, none⟩ (.slice no n.kids.length nc)) from Turns.mono (G := Two x) (((((((Turns.refl (fun g => g = x.heap.size + 1 + 1) w10).setCell (p := ⟨x.heap.size + 1 + 1, 0, none⟩) rfl (.string A)).setCell (p := ⟨x.heap.size + 1 + 1, 1, none⟩) rfl (.slice lo l.length lc)).setCell (p := ⟨x.heap.size + 1 + 1, 2, none⟩) rfl (.int .i64 n.kind)).setCell (p := ⟨x.heap.size + 1 + 1, 3, none⟩) rfl (.string n.ta)).setCell (p := ⟨x.heap.size + 1 + 1, 4, none⟩) rfl (.string n.tb)).setCell (p := ⟨x.heap.size + 1 + 1, 5, none⟩) rfl (.slice no n.kids.length nc)) fun _ _ h => .inr h)
        apply Order.acts_any (R := (Turns (Two x))) (fun h k => h.trans k fun _ _ h => h) (i := 3)
        · rfl
        · decide +kernel
        · rfl
        unfold Oper.wp
        go_simp
        refine ⟨HT.out, ?_⟩
        generalize ((((((w10.setCell ⟨x.heap.size + 1 + 1, 0, none⟩ (.string A)).setCell ⟨x.heap.size + 1 + 1, 1, none⟩ (.slice lo l.length lc)).setCell ⟨x.heap.size + 1 + 1, 2, none⟩ (.int .i64 n.kind)).setCell ⟨x.heap.size + 1 + 1, 3, none⟩ (.string n.ta)).setCell ⟨x.heap.size + 1 + 1, 4, none⟩ (.string n.tb)).setCell ⟨x.heap.size + 1 + 1, 5, none⟩ (.slice no n.kids.length nc)) = w11 at *
        clear HT
        clear q160 q161 q162 q163 q164 q165 f170 f171 f172 f173 f174 f175
        refine wpAnyH_done (by decide +kernel) ?_ _
        refine NoPanic.normal ?_
        go_wp2_with fail
        obtain ⟨g0, g1, g2, g3⟩ := B1.out.cells
        obtain ⟨k0, k1, k2, k3, k4, k5⟩ := B2.out.cells
        refine bodyPost_ret (v := .tuple #[.agg #[.slice c.ao c.L.length c.cap, .int .i64 (atN c s7 : Nat), .int .i64 (o : Nat), .int .i64 (s7.err : Nat)], .agg #[.string A, .slice lo l.length lc, .int .i64 n.kind, .string n.ta, .string n.tb, .slice no n.kids.length nc]]) (by simp [results, Tryd.results53, go_sem, g0, g1, g2, g3, k0, k1, k2, k3, k4, k5]) rfl ⟨.agg #[.string A, .slice lo l.length lc, .int .i64 n.kind, .string n.ta, .string n.tb, .slice no n.kids.length nc], ?_, ?_, BL.out⟩
        · rw [HQ.out, show stV c o (_, s7).2 = stV c o s7 from rfl]
        · rw [HQ.out]
          exact ⟨lo, lc, no, nc, x.heap.size + 4, rfl, HR.out.rows, fun k hk => by have := (HR.out.own_lt hk).1; omega, HN.out.sub fun g hg _ => by omega⟩
  · have e91 : (next s1 == 91) = false := by simpa using h91
    have hal : allows s1 = ([], s1) := if_neg h91
    rw [hal] at HQ
    simp only at HQ
    clear hal
    have HR := Lib.hid (RowX.nil allowE (fun _ => False) w6 (x.heap.size + 4) tAl)
    obtain ⟨q90, q91, q92, q93⟩ := B0.out.cells
    go_wp2_with fail
    clear q90 q91 q92 q93
    have hT := dtake_any (o := o) (s := s1) (h.below BL.out) hs1 61 (by decide)
    refine hT.mono ?_
    rintro e w20 ⟨rfl, hbw⟩
    have hs5 : (need s1 61).rest <:+ kt c.L := (need_suf _ 61).trans hs1
    replace B0 := Lib.hid (B0.out.on hbw)
    replace B1 := Lib.hid (B1.out.on hbw)
    replace B2 := Lib.hid (B2.out.on hbw)
    replace B4 := Lib.hid (B4.out.on hbw)
    replace HR := Lib.hid (HR.out.below hbw)
    replace BL := Lib.hid (BL.out.trans (hbw.mono BL.out.size))
    clear hT hbw
    generalize tk s1 61 = A1 at *
    generalize need s1 61 = s5 at *
    obtain ⟨q100, q101, q102, q103⟩ := B0.out.cells
    obtain ⟨f110, f111, f112, f113⟩ := B0.out.free
    have t1 : Turns (fun g => g = x.heap.size) w20 ((((w20.setCell ⟨x.heap.size, 0, none⟩ (.slice c.ao c.L.length c.cap)).setCell ⟨x.heap.size, 1, none⟩ (.int .i64 (atN c s5 : Nat))).setCell ⟨x.heap.size, 2, none⟩ (.int .i64 (o : Nat))).setCell ⟨x.heap.size, 3, none⟩ (.int .i64 (s5.err : Nat))) := (((((Turns.refl (fun g => g = x.heap.size) w20).setCell (p := ⟨x.heap.size, 0, none⟩) rfl (.slice c.ao c.L.length c.cap)).setCell (p := ⟨x.heap.size, 1, none⟩) rfl (.int .i64 (atN c s5 : Nat))).setCell (p := ⟨x.heap.size, 2, none⟩) rfl (.int .i64 (o : Nat))).setCell (p := ⟨x.heap.size, 3, none⟩) rfl (.int .i64 (s5.err : Nat)))
    replace B0 := Lib.hid (show C4 x.heap.size tSt (.slice c.ao c.L.length c.cap) (.int .i64 (atN c s5 : Nat)) (.int .i64 (o : Nat)) (.int .i64 (s5.err : Nat)) ((((w20.setCell ⟨x.heap.size, 0, none⟩ (.slice c.ao c.L.length c.cap)).setCell ⟨x.heap.size, 1, none⟩ (.int .i64 (atN c s5 : Nat))).setCell ⟨x.heap.size, 2, none⟩ (.int .i64 (o : Nat))).setCell ⟨x.heap.size, 3, none⟩ (.int .i64 (s5.err : Nat))) from (Lib.heap_setCell_same (i := 3) (Lib.heap_setCell_same (i := 2) (Lib.heap_setCell_same (i := 1) (Lib.heap_setCell_same (i := 0) B0.out (.slice c.ao c.L.length c.cap)) (.int .i64 (atN c s5 : Nat))) (.int .i64 (o : Nat))) (.int .i64 (s5.err : Nat))))
    replace B1 := Lib.hid (B1.out.turn t1 (by omega))
    replace B2 := Lib.hid (B2.out.turn t1 (by omega))
    replace B4 := Lib.hid (B4.out.turn t1 (by omega))
    replace HR := Lib.hid (HR.out.turn t1 fun g hg _ e => show False by omega)
    replace BL := Lib.hid (BL.out.trans (t1.below BL.out.size fun k hk => by omega))
    clear t1
    obtain ⟨q120, q121, q122, q123⟩ := B0.out.cells
    go_wp2_with fail
    generalize ((((w20.setCell ⟨x.heap.size, 0, none⟩ (.slice c.ao c.L.length c.cap)).setCell ⟨x.heap.size, 1, none⟩ (.int .i64 (atN c s5 : Nat))).setCell ⟨x.heap.size, 2, none⟩ (.int .i64 (o : Nat))).setCell ⟨x.heap.size, 3, none⟩ (.int .i64 (s5.err : Nat))) = w21 at *
    clear q100 q101 q102 q103 f110 f111 f112 f113 q120 q121 q122 q123
    refine (hU s5 _ (h.below BL.out) hs5).mono ?_
    rintro e w22 ⟨v, rfl, hv, hbw⟩
    have hs6 : (union s5).2.rest <:+ kt c.L := ((union_fine (brk_fine 8)).suf s5).trans hs5
    have hv' : NodeS (fun g => w21.heap.size ≤ g) w22 (union s5).1 v := hv
    have HLw := Lib.hid (show x.heap.size + 4 ≤ w21.heap.size by have := B4.out.lt; omega)
    replace B0 := Lib.hid (B0.out.on hbw)
    replace B1 := Lib.hid (B1.out.on hbw)
    replace B2 := Lib.hid (B2.out.on hbw)
    replace B4 := Lib.hid (B4.out.on hbw)
    replace HR := Lib.hid (HR.out.below hbw)
    replace BL := Lib.hid (BL.out.trans (hbw.mono BL.out.size))
    clear hv hbw
    generalize (union s5).2 = s6 at *
    generalize (union s5).1 = n at *
    obtain ⟨no, nc, us, rfl, -⟩ := hv'.open
    have HN := Lib.hid (hv'.sub (S' := fun g => x.heap.size + 4 ≤ g) fun g hg _ => by have := HLw.out; omega)
    clear hv' HLw
    obtain ⟨q130, q131, q132, q133⟩ := B0.out.cells
    obtain ⟨f140, f141, f142, f143⟩ := B0.out.free
    have t1 : Turns (fun g => g = x.heap.size) w22 ((((w22.setCell ⟨x.heap.size, 0, none⟩ (.slice c.ao c.L.length c.cap)).setCell ⟨x.heap.size, 1, none⟩ (.int .i64 (atN c s6 : Nat))).setCell ⟨x.heap.size, 2, none⟩ (.int .i64 (o : Nat))).setCell ⟨x.heap.size, 3, none⟩ (.int .i64 (s6.err : Nat))) := (((((Turns.refl (fun g => g = x.heap.size) w22).setCell (p := ⟨x.heap.size, 0, none⟩) rfl (.slice c.ao c.L.length c.cap)).setCell (p := ⟨x.heap.size, 1, none⟩) rfl (.int .i64 (atN c s6 : Nat))).setCell (p := ⟨x.heap.size, 2, none⟩) rfl (.int .i64 (o : Nat))).setCell (p := ⟨x.heap.size, 3, none⟩) rfl (.int .i64 (s6.err : Nat)))
    replace B0 := Lib.hid (show C4 x.heap.size tSt (.slice c.ao c.L.length c.cap) (.int .i64 (atN c s6 : Nat)) (.int .i64 (o : Nat)) (.int .i64 (s6.err : Nat)) ((((w22.setCell ⟨x.heap.size, 0, none⟩ (.slice c.ao c.L.length c.cap)).setCell ⟨x.heap.size, 1, none⟩ (.int .i64 (atN c s6 : Nat))).setCell ⟨x.heap.size, 2, none⟩ (.int .i64 (o : Nat))).setCell ⟨x.heap.size, 3, none⟩ (.int .i64 (s6.err : Nat))) from (Lib.heap_setCell_same (i := 3) (Lib.heap_setCell_same (i := 2) (Lib.heap_setCell_same (i := 1) (Lib.heap_setCell_same (i := 0) B0.out (.slice c.ao c.L.length c.cap)) (.int .i64 (atN c s6 : Nat))) (.int .i64 (o : Nat))) (.int .i64 (s6.err : Nat))))
    replace B1 := Lib.hid (B1.out.turn t1 (by omega))
    replace B2 := Lib.hid (B2.out.turn t1 (by omega))
    replace B4 := Lib.hid (B4.out.turn t1 (by omega))
    replace HN := Lib.hid (HN.out.turn t1 (fun g hg _ => by omega) fun g hg _ => hg)
    replace HR := Lib.hid (HR.out.turn t1 fun g hg _ e => show False by omega)
    replace BL := Lib.hid (BL.out.trans (t1.below BL.out.size fun k hk => by omega))
    clear t1
    obtain ⟨q150, q151, q152, q153, q154, q155⟩ := B4.out.cells
    obtain ⟨f160, f161, f162, f163, f164, f165⟩ := B4.out.free
    have t1 : Turns (fun g => g = x.heap.size + 1 + 1 + 1) ((((w22.setCell ⟨x.heap.size, 0, none⟩ (.slice c.ao c.L.length c.cap)).setCell ⟨x.heap.size, 1, none⟩ (.int .i64 (atN c s6 : Nat))).setCell ⟨x.heap.size, 2, none⟩ (.int .i64 (o : Nat))).setCell ⟨x.heap.size, 3, none⟩ (.int .i64 (s6.err : Nat))) ((((((((w22.setCell ⟨x.heap.size, 0, none⟩ (.slice c.ao c.L.length c.cap)).setCell ⟨x.heap.size, 1, none⟩ (.int .i64 (atN c s6 : Nat))).setCell ⟨x.heap.size, 2, none⟩ (.int .i64 (o : Nat))).setCell ⟨x.heap.size, 3, none⟩ (.int .i64 (s6.err : Nat))).setCell ⟨x.heap.size + 1 + 1 + 1, 2, none⟩ (.int .i64 n.kind)).setCell ⟨x.heap.size + 1 + 1 + 1, 3, none⟩ (.string n.ta)).setCell ⟨x.heap.size + 1 + 1 + 1, 4, none⟩ (.string n.tb)).setCell ⟨x.heap.size + 1 + 1 + 1, 5, none⟩ (.slice no n.kids.length nc)) := (((((Turns.refl (fun g => g = x.heap.size + 1 + 1 + 1) ((((w22.setCell ⟨x.heap.size, 0, none⟩ (.slice c.ao c.L.length c.cap)).setCell ⟨x.heap.size, 1, none⟩ (.int .i64 (atN c s6 : Nat))).setCell ⟨x.heap.size, 2, none⟩ (.int .i64 (o : Nat))).setCell ⟨x.heap.size, 3, none⟩ (.int .i64 (s6.err : Nat)))).setCell (p := ⟨x.heap.size + 1 + 1 + 1, 2, none⟩) rfl (.int .i64 n.kind)).setCell (p := ⟨x.heap.size + 1 + 1 + 1, 3, none⟩) rfl (.string n.ta)).setCell (p := ⟨x.heap.size + 1 + 1 + 1, 4, none⟩) rfl (.string n.tb)).setCell (p := ⟨x.heap.size + 1 + 1 + 1, 5, none⟩) rfl (.slice no n.kids.length nc))
    replace B0 := Lib.hid (B0.out.turn t1 (by omega))
    replace B1 := Lib.hid (B1.out.turn t1 (by omega))
    replace B2 := Lib.hid (B2.out.turn t1 (by omega))
    replace B4 := Lib.hid (show C6 (x.heap.size + 1 + 1 + 1) tRl (.string A) (.slice none 0 0) (.int .i64 n.kind) (.string n.ta) (.string n.tb) (.slice no n.kids.length nc) ((((((((w22.setCell ⟨x.heap.size, 0, none⟩ (.slice c.ao c.L.length c.cap)).setCell ⟨x.heap.size, 1, none⟩ (.int .i64 (atN c s6 : Nat))).setCell ⟨x.heap.size, 2, none⟩ (.int .i64 (o : Nat))).setCell ⟨x.heap.size, 3, none⟩ (.int .i64 (s6.err : Nat))).setCell ⟨x.heap.size + 1 + 1 + 1, 2, none⟩ (.int .i64 n.kind)).setCell ⟨x.heap.size + 1 + 1 + 1, 3, none⟩ (.string n.ta)).setCell ⟨x.heap.size + 1 + 1 + 1, 4, none⟩ (.string n.tb)).setCell ⟨x.heap.size + 1 + 1 + 1, 5, none⟩ (.slice no n.kids.length nc)) from (Lib.heap_setCell_same (i := 5) (Lib.heap_setCell_same (i := 4) (Lib.heap_setCell_same (i := 3) (Lib.heap_setCell_same (i := 2) B4.out (.int .i64 n.kind)) (.string n.ta)) (.string n.tb)) (.slice no n.kids.length nc)))
    replace HN := Lib.hid (HN.out.turn t1 (fun g hg _ => by omega) fun g hg _ => hg)
    replace HR := Lib.hid (HR.out.turn t1 fun g hg _ e => show False by omega)
    replace BL := Lib.hid (BL.out.trans (t1.below BL.out.size fun k hk => by omega))
    clear t1
    obtain ⟨q170, q171, q172, q173⟩ := B0.out.cells
    go_wp2_with fail
    generalize ((((((((w22.setCell ⟨x.heap.size, 0, none⟩ (.slice c.ao c.L.length c.cap)).setCell ⟨x.heap.size, 1, none⟩ (.int .i64 (atN c s6 : Nat))).setCell ⟨x.heap.size, 2, none⟩ (.int .i64 (o : Nat))).setCell ⟨x.heap.size, 3, none⟩ (.int .i64 (s6.err : Nat))).setCell ⟨x.heap.size + 1 + 1 + 1, 2, none⟩ (.int .i64 n.kind)).setCell ⟨x.heap.size + 1 + 1 + 1, 3, none⟩ (.string n.ta)).setCell ⟨x.heap.size + 1 + 1 + 1, 4, none⟩ (.string n.tb)).setCell ⟨x.heap.size + 1 + 1 + 1, 5, none⟩ (.slice no n.kids.length nc)) = w23 at *
    clear q130 q131 q132 q133 f140 f141 f142 f143 q150 q151 q152 q153 q154 q155 f160 f161 f162 f163 f164 f165 q170 q171 q172 q173
    have hT := dtake_any (o := o) (s := s6) (h.below BL.out) hs6 59 (by decide)
    refine hT.mono ?_
    rintro e w24 ⟨rfl, hbw⟩
    have hs7 : (need s6 59).rest <:+ kt c.L := (need_suf _ 59).trans hs6
    replace B0 := Lib.hid (B0.out.on hbw)
    replace B1 := Lib.hid (B1.out.on hbw)
    replace B2 := Lib.hid (B2.out.on hbw)
    replace B4 := Lib.hid (B4.out.on hbw)
    replace HN := Lib.hid (NodeS.below HN.out hbw)
    replace HR := Lib.hid (HR.out.below hbw)
    replace BL := Lib.hid (BL.out.trans (hbw.mono BL.out.size))
    clear hT hbw
    generalize tk s6 59 = A2 at *
    generalize need s6 59 = s7 at *
    obtain ⟨q180, q181, q182, q183⟩ := B0.out.cells
    obtain ⟨f190, f191, f192, f193⟩ := B0.out.free
    have t1 : Turns (fun g => g = x.heap.size) w24 ((((w24.setCell ⟨x.heap.size, 0, none⟩ (.slice c.ao c.L.length c.cap)).setCell ⟨x.heap.size, 1, none⟩ (.int .i64 (atN c s7 : Nat))).setCell ⟨x.heap.size, 2, none⟩ (.int .i64 (o : Nat))).setCell ⟨x.heap.size, 3, none⟩ (.int .i64 (s7.err : Nat))) := (((((Turns.refl (fun g => g = x.heap.size) w24).setCell (p := ⟨x.heap.size, 0, none⟩) rfl (.slice c.ao c.L.length c.cap)).setCell (p := ⟨x.heap.size, 1, none⟩) rfl (.int .i64 (atN c s7 : Nat))).setCell (p := ⟨x.heap.size, 2, none⟩) rfl (.int .i64 (o : Nat))).setCell (p := ⟨x.heap.size, 3, none⟩) rfl (.int .i64 (s7.err : Nat)))
    replace B0 := Lib.hid (show C4 x.heap.size tSt (.slice c.ao c.L.length c.cap) (.int .i64 (atN c s7 : Nat)) (.int .i64 (o : Nat)) (.int .i64 (s7.err : Nat)) ((((w24.setCell ⟨x.heap.size, 0, none⟩ (.slice c.ao c.L.length c.cap)).setCell ⟨x.heap.size, 1, none⟩ (.int .i64 (atN c s7 : Nat))).setCell ⟨x.heap.size, 2, none⟩ (.int .i64 (o : Nat))).setCell ⟨x.heap.size, 3, none⟩ (.int .i64 (s7.err : Nat))) from (Lib.heap_setCell_same (i := 3) (Lib.heap_setCell_same (i := 2) (Lib.heap_setCell_same (i := 1) (Lib.heap_setCell_same (i := 0) B0.out (.slice c.ao c.L.length c.cap)) (.int .i64 (atN c s7 : Nat))) (.int .i64 (o : Nat))) (.int .i64 (s7.err : Nat))))
    replace B1 := Lib.hid (B1.out.turn t1 (by omega))
    replace B2 := Lib.hid (B2.out.turn t1 (by omega))
    replace B4 := Lib.hid (B4.out.turn t1 (by omega))
    replace HN := Lib.hid (HN.out.turn t1 (fun g hg _ => by omega) fun g hg _ => hg)
    replace HR := Lib.hid (HR.out.turn t1 fun g hg _ e => show False by omega)
    replace BL := Lib.hid (BL.out.trans (t1.below BL.out.size fun k hk => by omega))
    clear t1
    go_wp2_with fail
    generalize ((((w24.setCell ⟨x.heap.size, 0, none⟩ (.slice c.ao c.L.length c.cap)).setCell ⟨x.heap.size, 1, none⟩ (.int .i64 (atN c s7 : Nat))).setCell ⟨x.heap.size, 2, none⟩ (.int .i64 (o : Nat))).setCell ⟨x.heap.size, 3, none⟩ (.int .i64 (s7.err : Nat))) = w25 at *
    clear q180 q181 q182 q183 f190 f191 f192 f193
    replace B0 := Lib.hid (B0.out.on (Below.refl _ _).drew)
    replace B1 := Lib.hid (B1.out.on (Below.refl _ _).drew)
    replace B2 := Lib.hid (B2.out.on (Below.refl _ _).drew)
    replace B4 := Lib.hid (B4.out.on (Below.refl _ _).drew)
    replace HN := Lib.hid (NodeS.below HN.out (Below.refl _ _).drew)
    replace HR := Lib.hid (HR.out.below (Below.refl _ _).drew)
    replace BL := Lib.hid (BL.out.trans (((Below.refl w25.heap.size w25).drew).mono BL.out.size))
    refine Order.region_begin (S := Turns (Two x) w25.drew) (by kernel_rfl) ?_
    generalize w25.drew = w9 at *
    have HX := Lib.hid (show ∀ z, Turns (Two x) w9 z → _ from fun z hz => And.intro (B0.out.turn hz (by omega)).cells (B4.out.turn hz (by omega)).cells)
    refine Order.reads_any (idx := [0, 1]) (by kernel_rfl) (Turns.refl _ _) (fun _ _ _ _ _ h => Order.noPanic_put h) 2 _ _ (by decide +kernel) ?_
    simp only [Order.pick, List.getElem?_toArray, List.getElem?_cons_zero, List.getElem?_cons_succ]
    repeat (first
      | (refine Order.reads_off (by rfl) ?_
         simp only [Act.put, List.setIfInBounds_toArray, List.set_cons_zero, List.set_cons_succ])
      | (apply Order.reads_on
         · rfl
         · intro x hx
           first
             | (go_simp; rfl)
             | (obtain ⟨⟨i0, i1, i2, i3⟩, i4, i5, i6, i7, i8, i9⟩ := HX.out x hx
                go_simp; rfl)
         simp only [Act.put, List.setIfInBounds_toArray, List.set_cons_zero, List.set_cons_succ]))
    refine Order.reads_end ?_
    clear HX
    obtain ⟨q200, q201, q202, q203⟩ := B1.out.cells
    obtain ⟨f210, f211, f212, f213⟩ := B1.out.free
    have t1 : Turns (fun g => g = x.heap.size + 1) w9 ((((w9.setCell ⟨x.heap.size + 1, 0, none⟩ (.slice c.ao c.L.length c.cap)).setCell ⟨x.heap.size + 1, 1, none⟩ (.int .i64 (atN c s7 : Nat))).setCell ⟨x.heap.size + 1, 2, none⟩ (.int .i64 (o : Nat))).setCell ⟨x.heap.size + 1, 3, none⟩ (.int .i64 (s7.err : Nat))) := (((((Turns.refl (fun g => g = x.heap.size + 1) w9).setCell (p := ⟨x.heap.size + 1, 0, none⟩) rfl (.slice c.ao c.L.length c.cap)).setCell (p := ⟨x.heap.size + 1, 1, none⟩) rfl (.int .i64 (atN c s7 : Nat))).setCell (p := ⟨x.heap.size + 1, 2, none⟩) rfl (.int .i64 (o : Nat))).setCell (p := ⟨x.heap.size + 1, 3, none⟩) rfl (.int .i64 (s7.err : Nat)))
    replace B1 := Lib.hid (show C4 (x.heap.size + 1) tSt (.slice c.ao c.L.length c.cap) (.int .i64 (atN c s7 : Nat)) (.int .i64 (o : Nat)) (.int .i64 (s7.err : Nat)) ((((w9.setCell ⟨x.heap.size + 1, 0, none⟩ (.slice c.ao c.L.length c.cap)).setCell ⟨x.heap.size + 1, 1, none⟩ (.int .i64 (atN c s7 : Nat))).setCell ⟨x.heap.size + 1, 2, none⟩ (.int .i64 (o : Nat))).setCell ⟨x.heap.size + 1, 3, none⟩ (.int .i64 (s7.err : Nat))) from (Lib.heap_setCell_same (i := 3) (Lib.heap_setCell_same (i := 2) (Lib.heap_setCell_same (i := 1) (Lib.heap_setCell_same (i := 0) B1.out (.slice c.ao c.L.length c.cap)) (.int .i64 (atN c s7 : Nat))) (.int .i64 (o : Nat))) (.int .i64 (s7.err : Nat))))
    replace B2 := Lib.hid (B2.out.turn t1 (by omega))
    replace HN := Lib.hid (HN.out.turn t1 (fun g hg _ => by omega) fun g hg _ => hg)
    replace HR := Lib.hid (HR.out.turn t1 fun g hg _ e => show False by omega)
    replace BL := Lib.hid (BL.out.trans (t1.below BL.out.size fun k hk => by omega))
    clear t1
    have HT := Lib.hid (show Turns (Two x) w9 ((((w9.setCell ⟨x.heap.size + 1, 0, none⟩ (.slice c.ao c.L.length c.cap)).setCell ⟨x.heap.size + 1, 1, none⟩ (.int .i64 (atN c s7 : Nat))).setCell ⟨x.heap.size + 1, 2, none⟩ (.int .i64 (o : Nat))).setCell ⟨x.heap.size + 1, 3, none⟩ (.int .i64 (s7.err : Nat))) from Turns.mono (G := Two x) (((((Turns.refl (fun g => g = x.heap.size + 1) w9).setCell (p := ⟨x.heap.size + 1, 0, none⟩) rfl (.slice c.ao c.L.length c.cap)).setCell (p := ⟨x.heap.size + 1, 1, none⟩) rfl (.int .i64 (atN c s7 : Nat))).setCell (p := ⟨x.heap.size + 1, 2, none⟩) rfl (.int .i64 (o : Nat))).setCell (p := ⟨x.heap.size + 1, 3, none⟩) rfl (.int .i64 (s7.err : Nat))) fun _ _ h => .inl h)
    apply Order.acts_any (R := (Turns (Two x))) (fun h k => h.trans k fun _ _ h => h) (i := 2)
    · rfl
    · decide +kernel
    · rfl
    unfold Oper.wp
    go_simp
    refine ⟨HT.out, ?_⟩
    generalize ((((w9.setCell ⟨x.heap.size + 1, 0, none⟩ (.slice c.ao c.L.length c.cap)).setCell ⟨x.heap.size + 1, 1, none⟩ (.int .i64 (atN c s7 : Nat))).setCell ⟨x.heap.size + 1, 2, none⟩ (.int .i64 (o : Nat))).setCell ⟨x.heap.size + 1, 3, none⟩ (.int .i64 (s7.err : Nat))) = w10 at *
    clear HT
    clear q200 q201 q202 q203 f210 f211 f212 f213
    obtain ⟨q220, q221, q222, q223, q224, q225⟩ := B2.out.cells
    obtain ⟨f230, f231, f232, f233, f234, f235⟩ := B2.out.free
    have t1 : Turns (fun g => g = x.heap.size + 1 + 1) w10 ((((((w10.setCell ⟨x.heap.size + 1 + 1, 0, none⟩ (.string A)).setCell ⟨x.heap.size + 1 + 1, 1, none⟩ (.slice none 0 0)).setCell ⟨x.heap.size + 1 + 1, 2, none⟩ (.int .i64 n.kind)).setCell ⟨x.heap.size + 1 + 1, 3, none⟩ (.string n.ta)).setCell ⟨x.heap.size + 1 + 1, 4, none⟩ (.string n.tb)).setCell ⟨x.heap.size + 1 + 1, 5, none⟩ (.slice no n.kids.length nc)) := (((((((Turns.refl (fun g => g = x.heap.size + 1 + 1) w10).setCell (p := ⟨x.heap.size + 1 + 1, 0, none⟩) rfl (.string A)).setCell (p := ⟨x.heap.size + 1 + 1, 1, none⟩) rfl (.slice none 0 0)).setCell (p := ⟨x.heap.size + 1 + 1, 2, none⟩) rfl (.int .i64 n.kind)).setCell (p := ⟨x.heap.size + 1 + 1, 3, none⟩) rfl (.string n.ta)).setCell (p := ⟨x.heap.size + 1 + 1, 4, none⟩) rfl (.string n.tb)).setCell (p := ⟨x.heap.size + 1 + 1, 5, none⟩) rfl (.slice no n.kids.length nc))
    replace B1 := Lib.hid (B1.out.turn t1 (by omega))
    replace B2 := Lib.hid (show C6 (x.heap.size + 1 + 1) tRl (.string A) (.slice none 0 0) (.int .i64 n.kind) (.string n.ta) (.string n.tb) (.slice no n.kids.length nc) ((((((w10.setCell ⟨x.heap.size + 1 + 1, 0, none⟩ (.string A)).setCell ⟨x.heap.size + 1 + 1, 1, none⟩ (.slice none 0 0)).setCell ⟨x.heap.size + 1 + 1, 2, none⟩ (.int .i64 n.kind)).setCell ⟨x.heap.size + 1 + 1, 3, none⟩ (.string n.ta)).setCell ⟨x.heap.size + 1 + 1, 4, none⟩ (.string n.tb)).setCell ⟨x.heap.size + 1 + 1, 5, none⟩ (.slice no n.kids.length nc)) from (Lib.heap_setCell_same (i := 5) (Lib.heap_setCell_same (i := 4) (Lib.heap_setCell_same (i := 3) (Lib.heap_setCell_same (i := 2) (Lib.heap_setCell_same (i := 1) (Lib.heap_setCell_same (i := 0) B2.out (.string A)) (.slice none 0 0)) (.int .i64 n.kind)) (.string n.ta)) (.string n.tb)) (.slice no n.kids.length nc)))
    replace HN := Lib.hid (HN.out.turn t1 (fun g hg _ => by omega) fun g hg _ => hg)
    replace HR := Lib.hid (HR.out.turn t1 fun g hg _ e => show False by omega)
    replace BL := Lib.hid (BL.out.trans (t1.below BL.out.size fun k hk => by omega))
    clear t1
    have HT := Lib.hid (show Turns (Two x) w10 ((((((w10.setCell ⟨x.heap.size + 1 + 1, 0, none⟩ (.string A)).setCell ⟨x.heap.size + 1 + 1, 1, none⟩ (.slice none 0 0)).setCell ⟨x.heap.size + 1 + 1, 2, none⟩ (.int .i64 n.kind)).setCell ⟨x.heap.size + 1 + 1, 3, none⟩ (.string n.ta)).setCell ⟨x.heap.size + 1 + 1, 4, none⟩ (.string n.tb)).setCell ⟨x.heap.size + 1 + 1, 5, none⟩ (.slice no n.kids.length nc)) from Turns.mono (G := Two x) (((((((Turns.refl (fun g => g = x.heap.size + 1 + 1) w10).setCell (p := ⟨x.heap.size + 1 + 1, 0, none⟩) rfl (.string A)).setCell (p := ⟨x.heap.size + 1 + 1, 1, none⟩) rfl (.slice none 0 0)).setCell (p := ⟨x.heap.size + 1 + 1, 2, none⟩) rfl (.int .i64 n.kind)).setCell (p := ⟨x.heap.size + 1 + 1, 3, none⟩) rfl (.string n.ta)).setCell (p := ⟨x.heap.size + 1 + 1, 4, none⟩) rfl (.string n.tb)).setCell (p := ⟨x.heap.size + 1 + 1, 5, none⟩) rfl (.slice no n.kids.length nc)) fun _ _ h => .inr h)
    apply Order.acts_any (R := (Turns (Two x))) (fun h k => h.trans k fun _ _ h => h) (i := 3)
    · rfl
    · decide +kernel
    · rfl
    unfold Oper.wp
    go_simp
    refine ⟨HT.out, ?_⟩
    generalize ((((((w10.setCell ⟨x.heap.size + 1 + 1, 0, none⟩ (.string A)).setCell ⟨x.heap.size + 1 + 1, 1, none⟩ (.slice none 0 0)).setCell ⟨x.heap.size + 1 + 1, 2, none⟩ (.int .i64 n.kind)).setCell ⟨x.heap.size + 1 + 1, 3, none⟩ (.string n.ta)).setCell ⟨x.heap.size + 1 + 1, 4, none⟩ (.string n.tb)).setCell ⟨x.heap.size + 1 + 1, 5, none⟩ (.slice no n.kids.length nc)) = w11 at *
    clear HT
    clear q220 q221 q222 q223 q224 q225 f230 f231 f232 f233 f234 f235
    refine wpAnyH_done (by decide +kernel) ?_ _
    refine NoPanic.normal ?_
    go_wp2_with fail
    obtain ⟨g0, g1, g2, g3⟩ := B1.out.cells
    obtain ⟨k0, k1, k2, k3, k4, k5⟩ := B2.out.cells
    refine bodyPost_ret (v := .tuple #[.agg #[.slice c.ao c.L.length c.cap, .int .i64 (atN c s7 : Nat), .int .i64 (o : Nat), .int .i64 (s7.err : Nat)], .agg #[.string A, .slice none 0 0, .int .i64 n.kind, .string n.ta, .string n.tb, .slice no n.kids.length nc]]) (by simp [results, Tryd.results53, go_sem, g0, g1, g2, g3, k0, k1, k2, k3, k4, k5]) rfl ⟨.agg #[.string A, .slice none 0 0, .int .i64 n.kind, .string n.ta, .string n.tb, .slice no n.kids.length nc], ?_, ?_, BL.out⟩
    · rw [HQ.out, show stV c o (_, s7).2 = stV c o s7 from rfl]
    · rw [HQ.out]
      exact ⟨none, 0, no, nc, x.heap.size + 4, rfl, HR.out.rows, fun k hk => by have := (HR.out.own_lt hk).1; omega, HN.out.sub fun g hg _ => by omega⟩
end Gr
end Go.Proofs.YtbphmaoomnocmaaDoor
