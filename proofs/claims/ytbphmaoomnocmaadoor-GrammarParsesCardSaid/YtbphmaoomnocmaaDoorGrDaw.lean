/-
  Layer 7's document: allow. Written by gen/mk_da2.py and ord.py.
-/
import Derived.Test.YtbphmaoomnocmaaDoorGrDc
import Derived.Test.YtbphmaoomnocmaaDoorGrDu
namespace Go.Proofs.YtbphmaoomnocmaaDoor
open Go.RowKit
namespace Gr
open Knot (Turns NewRow)
open Tr (Nd none0 node4 own_slice Box4)
open Sg (Tok kt TokAt txt)

set_option maxHeartbeats 8000000 in
set_option maxRecDepth 100000 in
theorem dallow_any {c : DCtx} {o : Nat} {s : St} {x : World} (h : DEnv c x) (hs : s.rest <:+ kt c.L) :
    Calls Tryd.prog 76 #[stV c o s] x (DOut allowE c o (allow s) x) := by
  have HQ := Lib.hid (show allow s = if next (need s 1) = 35 then (⟨tk s 1, tk (tl (need s 1)) 1, false⟩, need (tl (need s 1)) 1) else if next (need s 1) = 58 then (⟨tk s 1, none0, true⟩, need (tl (need s 1)) 42) else (⟨tk s 1, none0, false⟩, need s 1) by simp only [allow, word_tk])
  generalize allow s = res at *
  have B0 := Lib.hid (C4.new x tSt (.slice c.ao c.L.length c.cap) (.int .i64 (atN c s : Nat)) (.int .i64 (o : Nat)) (.int .i64 (s.err : Nat)))
  have BL := Lib.hid (show Below x.heap.size x (x.alloc (.cells #[.slice c.ao c.L.length c.cap, .int .i64 (atN c s : Nat), .int .i64 (o : Nat), .int .i64 (s.err : Nat)] tSt)) from (Below.refl _ _).alloc (Nat.le_refl _) _)
  have z1 : (x.alloc (.cells #[.slice c.ao c.L.length c.cap, .int .i64 (atN c s : Nat), .int .i64 (o : Nat), .int .i64 (s.err : Nat)] tSt)).heap.size = x.heap.size + 1 := by simp
  have al : Below (x.alloc (.cells #[.slice c.ao c.L.length c.cap, .int .i64 (atN c s : Nat), .int .i64 (o : Nat), .int .i64 (s.err : Nat)] tSt)).heap.size (x.alloc (.cells #[.slice c.ao c.L.length c.cap, .int .i64 (atN c s : Nat), .int .i64 (o : Nat), .int .i64 (s.err : Nat)] tSt)) ((x.alloc (.cells #[.slice c.ao c.L.length c.cap, .int .i64 (atN c s : Nat), .int .i64 (o : Nat), .int .i64 (s.err : Nat)] tSt)).alloc (.cells #[.slice none 0 0, .int .i64 0, .int .i64 0, .int .i64 0] tSt)) := (Below.refl _ _).alloc (Nat.le_refl _) _
  replace B0 := Lib.hid (B0.out.on al)
  have hn := C4.new (x.alloc (.cells #[.slice c.ao c.L.length c.cap, .int .i64 (atN c s : Nat), .int .i64 (o : Nat), .int .i64 (s.err : Nat)] tSt)) tSt (.slice none 0 0) (.int .i64 0) (.int .i64 0) (.int .i64 0)
  rw [z1] at hn
  have B1 := Lib.hid hn
  have z2 : ((x.alloc (.cells #[.slice c.ao c.L.length c.cap, .int .i64 (atN c s : Nat), .int .i64 (o : Nat), .int .i64 (s.err : Nat)] tSt)).alloc (.cells #[.slice none 0 0, .int .i64 0, .int .i64 0, .int .i64 0] tSt)).heap.size = x.heap.size + 1 + 1 := by simp
  replace BL := Lib.hid (BL.out.trans (al.mono BL.out.size))
  clear al hn
  have al : Below ((x.alloc (.cells #[.slice c.ao c.L.length c.cap, .int .i64 (atN c s : Nat), .int .i64 (o : Nat), .int .i64 (s.err : Nat)] tSt)).alloc (.cells #[.slice none 0 0, .int .i64 0, .int .i64 0, .int .i64 0] tSt)).heap.size ((x.alloc (.cells #[.slice c.ao c.L.length c.cap, .int .i64 (atN c s : Nat), .int .i64 (o : Nat), .int .i64 (s.err : Nat)] tSt)).alloc (.cells #[.slice none 0 0, .int .i64 0, .int .i64 0, .int .i64 0] tSt)) (((x.alloc (.cells #[.slice c.ao c.L.length c.cap, .int .i64 (atN c s : Nat), .int .i64 (o : Nat), .int .i64 (s.err : Nat)] tSt)).alloc (.cells #[.slice none 0 0, .int .i64 0, .int .i64 0, .int .i64 0] tSt)).alloc (.cells #[.string ⟨#[]⟩, .string ⟨#[]⟩, .bool false] tAl)) := (Below.refl _ _).alloc (Nat.le_refl _) _
  replace B0 := Lib.hid (B0.out.on al)
  replace B1 := Lib.hid (B1.out.on al)
  have hn := C3.new ((x.alloc (.cells #[.slice c.ao c.L.length c.cap, .int .i64 (atN c s : Nat), .int .i64 (o : Nat), .int .i64 (s.err : Nat)] tSt)).alloc (.cells #[.slice none 0 0, .int .i64 0, .int .i64 0, .int .i64 0] tSt)) tAl (.string ⟨#[]⟩) (.string ⟨#[]⟩) (.bool false)
  rw [z2] at hn
  have B2 := Lib.hid hn
  have z3 : (((x.alloc (.cells #[.slice c.ao c.L.length c.cap, .int .i64 (atN c s : Nat), .int .i64 (o : Nat), .int .i64 (s.err : Nat)] tSt)).alloc (.cells #[.slice none 0 0, .int .i64 0, .int .i64 0, .int .i64 0] tSt)).alloc (.cells #[.string ⟨#[]⟩, .string ⟨#[]⟩, .bool false] tAl)).heap.size = x.heap.size + 1 + 1 + 1 := by simp
  replace BL := Lib.hid (BL.out.trans (al.mono BL.out.size))
  clear al hn
  have al : Below (((x.alloc (.cells #[.slice c.ao c.L.length c.cap, .int .i64 (atN c s : Nat), .int .i64 (o : Nat), .int .i64 (s.err : Nat)] tSt)).alloc (.cells #[.slice none 0 0, .int .i64 0, .int .i64 0, .int .i64 0] tSt)).alloc (.cells #[.string ⟨#[]⟩, .string ⟨#[]⟩, .bool false] tAl)).heap.size (((x.alloc (.cells #[.slice c.ao c.L.length c.cap, .int .i64 (atN c s : Nat), .int .i64 (o : Nat), .int .i64 (s.err : Nat)] tSt)).alloc (.cells #[.slice none 0 0, .int .i64 0, .int .i64 0, .int .i64 0] tSt)).alloc (.cells #[.string ⟨#[]⟩, .string ⟨#[]⟩, .bool false] tAl)) ((((x.alloc (.cells #[.slice c.ao c.L.length c.cap, .int .i64 (atN c s : Nat), .int .i64 (o : Nat), .int .i64 (s.err : Nat)] tSt)).alloc (.cells #[.slice none 0 0, .int .i64 0, .int .i64 0, .int .i64 0] tSt)).alloc (.cells #[.string ⟨#[]⟩, .string ⟨#[]⟩, .bool false] tAl)).alloc (.cells #[.string ⟨#[]⟩, .string ⟨#[]⟩, .bool false] tAl)) := (Below.refl _ _).alloc (Nat.le_refl _) _
  replace B0 := Lib.hid (B0.out.on al)
  replace B1 := Lib.hid (B1.out.on al)
  replace B2 := Lib.hid (B2.out.on al)
  have hn := C3.new (((x.alloc (.cells #[.slice c.ao c.L.length c.cap, .int .i64 (atN c s : Nat), .int .i64 (o : Nat), .int .i64 (s.err : Nat)] tSt)).alloc (.cells #[.slice none 0 0, .int .i64 0, .int .i64 0, .int .i64 0] tSt)).alloc (.cells #[.string ⟨#[]⟩, .string ⟨#[]⟩, .bool false] tAl)) tAl (.string ⟨#[]⟩) (.string ⟨#[]⟩) (.bool false)
  rw [z3] at hn
  have B4 := Lib.hid hn
  have z4 : ((((x.alloc (.cells #[.slice c.ao c.L.length c.cap, .int .i64 (atN c s : Nat), .int .i64 (o : Nat), .int .i64 (s.err : Nat)] tSt)).alloc (.cells #[.slice none 0 0, .int .i64 0, .int .i64 0, .int .i64 0] tSt)).alloc (.cells #[.string ⟨#[]⟩, .string ⟨#[]⟩, .bool false] tAl)).alloc (.cells #[.string ⟨#[]⟩, .string ⟨#[]⟩, .bool false] tAl)).heap.size = x.heap.size + 1 + 1 + 1 + 1 := by simp
  replace BL := Lib.hid (BL.out.trans (al.mono BL.out.size))
  clear al hn
  clear z1 z2 z3 z4
  obtain ⟨q00, q01, q02, q03⟩ := B0.out.cells
  show Calls _ _ #[.agg #[.slice c.ao c.L.length c.cap, .int .i64 (atN c s : Nat), .int .i64 (o : Nat), .int .i64 (s.err : Nat)]] _ _
  go_enter Tryd.func76, Tryd.ntmps76
  go_wp2_with fail
  generalize ((((x.alloc (.cells #[.slice c.ao c.L.length c.cap, .int .i64 (atN c s : Nat), .int .i64 (o : Nat), .int .i64 (s.err : Nat)] tSt)).alloc (.cells #[.slice none 0 0, .int .i64 0, .int .i64 0, .int .i64 0] tSt)).alloc (.cells #[.string ⟨#[]⟩, .string ⟨#[]⟩, .bool false] tAl)).alloc (.cells #[.string ⟨#[]⟩, .string ⟨#[]⟩, .bool false] tAl)) = w1 at *
  clear q00 q01 q02 q03
  have hT := dtake_any (o := o) (s := s) (h.below BL.out) hs 1 (by decide)
  refine hT.mono ?_
  rintro e w2 ⟨rfl, hbw⟩
  have hs1 : (need s 1).rest <:+ kt c.L := (need_suf _ 1).trans hs
  replace B0 := Lib.hid (B0.out.on hbw)
  replace B1 := Lib.hid (B1.out.on hbw)
  replace B2 := Lib.hid (B2.out.on hbw)
  replace B4 := Lib.hid (B4.out.on hbw)
  replace BL := Lib.hid (BL.out.trans (hbw.mono BL.out.size))
  clear hT hbw
  generalize hA : tk s 1 = A at *
  generalize hN : need s 1 = s1 at *
  obtain ⟨q10, q11, q12, q13⟩ := B0.out.cells
  obtain ⟨f20, f21, f22, f23⟩ := B0.out.free
  have t1 : Turns (fun g => g = x.heap.size) w2 ((((w2.setCell ⟨x.heap.size, 0, none⟩ (.slice c.ao c.L.length c.cap)).setCell ⟨x.heap.size, 1, none⟩ (.int .i64 (atN c s1 : Nat))).setCell ⟨x.heap.size, 2, none⟩ (.int .i64 (o : Nat))).setCell ⟨x.heap.size, 3, none⟩ (.int .i64 (s1.err : Nat))) := (((((Turns.refl (fun g => g = x.heap.size) w2).setCell (p := ⟨x.heap.size, 0, none⟩) rfl (.slice c.ao c.L.length c.cap)).setCell (p := ⟨x.heap.size, 1, none⟩) rfl (.int .i64 (atN c s1 : Nat))).setCell (p := ⟨x.heap.size, 2, none⟩) rfl (.int .i64 (o : Nat))).setCell (p := ⟨x.heap.size, 3, none⟩) rfl (.int .i64 (s1.err : Nat)))
  replace B0 := Lib.hid (show C4 x.heap.size tSt (.slice c.ao c.L.length c.cap) (.int .i64 (atN c s1 : Nat)) (.int .i64 (o : Nat)) (.int .i64 (s1.err : Nat)) ((((w2.setCell ⟨x.heap.size, 0, none⟩ (.slice c.ao c.L.length c.cap)).setCell ⟨x.heap.size, 1, none⟩ (.int .i64 (atN c s1 : Nat))).setCell ⟨x.heap.size, 2, none⟩ (.int .i64 (o : Nat))).setCell ⟨x.heap.size, 3, none⟩ (.int .i64 (s1.err : Nat))) from (Lib.heap_setCell_same (i := 3) (Lib.heap_setCell_same (i := 2) (Lib.heap_setCell_same (i := 1) (Lib.heap_setCell_same (i := 0) B0.out (.slice c.ao c.L.length c.cap)) (.int .i64 (atN c s1 : Nat))) (.int .i64 (o : Nat))) (.int .i64 (s1.err : Nat))))
  replace B1 := Lib.hid (B1.out.turn t1 (by omega))
  replace B2 := Lib.hid (B2.out.turn t1 (by omega))
  replace B4 := Lib.hid (B4.out.turn t1 (by omega))
  replace BL := Lib.hid (BL.out.trans (t1.below BL.out.size fun k hk => by omega))
  clear t1
  obtain ⟨q30, q31, q32⟩ := B4.out.cells
  obtain ⟨f40, f41, f42⟩ := B4.out.free
  have t1 : Turns (fun g => g = x.heap.size + 1 + 1 + 1) ((((w2.setCell ⟨x.heap.size, 0, none⟩ (.slice c.ao c.L.length c.cap)).setCell ⟨x.heap.size, 1, none⟩ (.int .i64 (atN c s1 : Nat))).setCell ⟨x.heap.size, 2, none⟩ (.int .i64 (o : Nat))).setCell ⟨x.heap.size, 3, none⟩ (.int .i64 (s1.err : Nat))) (((((w2.setCell ⟨x.heap.size, 0, none⟩ (.slice c.ao c.L.length c.cap)).setCell ⟨x.heap.size, 1, none⟩ (.int .i64 (atN c s1 : Nat))).setCell ⟨x.heap.size, 2, none⟩ (.int .i64 (o : Nat))).setCell ⟨x.heap.size, 3, none⟩ (.int .i64 (s1.err : Nat))).setCell ⟨x.heap.size + 1 + 1 + 1, 0, none⟩ (.string A)) := ((Turns.refl (fun g => g = x.heap.size + 1 + 1 + 1) ((((w2.setCell ⟨x.heap.size, 0, none⟩ (.slice c.ao c.L.length c.cap)).setCell ⟨x.heap.size, 1, none⟩ (.int .i64 (atN c s1 : Nat))).setCell ⟨x.heap.size, 2, none⟩ (.int .i64 (o : Nat))).setCell ⟨x.heap.size, 3, none⟩ (.int .i64 (s1.err : Nat)))).setCell (p := ⟨x.heap.size + 1 + 1 + 1, 0, none⟩) rfl (.string A))
  replace B0 := Lib.hid (B0.out.turn t1 (by omega))
  replace B1 := Lib.hid (B1.out.turn t1 (by omega))
  replace B2 := Lib.hid (B2.out.turn t1 (by omega))
  replace B4 := Lib.hid (show C3 (x.heap.size + 1 + 1 + 1) tAl (.string A) (.string ⟨#[]⟩) (.bool false) (((((w2.setCell ⟨x.heap.size, 0, none⟩ (.slice c.ao c.L.length c.cap)).setCell ⟨x.heap.size, 1, none⟩ (.int .i64 (atN c s1 : Nat))).setCell ⟨x.heap.size, 2, none⟩ (.int .i64 (o : Nat))).setCell ⟨x.heap.size, 3, none⟩ (.int .i64 (s1.err : Nat))).setCell ⟨x.heap.size + 1 + 1 + 1, 0, none⟩ (.string A)) from (Lib.heap_setCell_same (i := 0) B4.out (.string A)))
  replace BL := Lib.hid (BL.out.trans (t1.below BL.out.size fun k hk => by omega))
  clear t1
  obtain ⟨q50, q51, q52, q53⟩ := B0.out.cells
  go_wp2_with fail
  generalize (((((w2.setCell ⟨x.heap.size, 0, none⟩ (.slice c.ao c.L.length c.cap)).setCell ⟨x.heap.size, 1, none⟩ (.int .i64 (atN c s1 : Nat))).setCell ⟨x.heap.size, 2, none⟩ (.int .i64 (o : Nat))).setCell ⟨x.heap.size, 3, none⟩ (.int .i64 (s1.err : Nat))).setCell ⟨x.heap.size + 1 + 1 + 1, 0, none⟩ (.string A)) = w3 at *
  clear q10 q11 q12 q13 f20 f21 f22 f23 q30 q31 q32 f40 f41 f42 q50 q51 q52 q53
  have hK := dkind_any (o := o) (s := s1) (h.below BL.out) hs1
  refine hK.mono ?_
  rintro e w4 ⟨rfl, hbw⟩
  replace B0 := Lib.hid (B0.out.on hbw)
  replace B1 := Lib.hid (B1.out.on hbw)
  replace B2 := Lib.hid (B2.out.on hbw)
  replace B4 := Lib.hid (B4.out.on hbw)
  replace BL := Lib.hid (BL.out.trans (hbw.mono BL.out.size))
  clear hK hbw
  by_cases h35 : next s1 = 35
  · replace HQ := Lib.hid (HQ.out.trans (if_pos h35))
    have e35 : (next s1 == 35) = true := by rw [h35]; rfl
    have hst := stV_tl1 (o := o) hs1 (by rw [h35]; decide)
    have hw := at_wrap h s1
    have hs_tl : (tl s1).rest <:+ kt c.L := (tl_suf s1).trans hs1
    obtain ⟨q60, q61, q62, q63⟩ := B0.out.cells
    obtain ⟨f70, f71, f72, f73⟩ := B0.out.free
    have t1 : Turns (fun g => g = x.heap.size) w4 (w4.setCell ⟨x.heap.size, 1, none⟩ (.int .i64 ((atN c s1 : Int) + 1))) := ((Turns.refl (fun g => g = x.heap.size) w4).setCell (p := ⟨x.heap.size, 1, none⟩) rfl (.int .i64 ((atN c s1 : Int) + 1)))
    replace B0 := Lib.hid (show C4 x.heap.size tSt (.slice c.ao c.L.length c.cap) (.int .i64 ((atN c s1 : Int) + 1)) (.int .i64 (o : Nat)) (.int .i64 (s1.err : Nat)) (w4.setCell ⟨x.heap.size, 1, none⟩ (.int .i64 ((atN c s1 : Int) + 1))) from (Lib.heap_setCell_same (i := 1) B0.out (.int .i64 ((atN c s1 : Int) + 1))))
    replace B1 := Lib.hid (B1.out.turn t1 (by omega))
    replace B2 := Lib.hid (B2.out.turn t1 (by omega))
    replace B4 := Lib.hid (B4.out.turn t1 (by omega))
    replace BL := Lib.hid (BL.out.trans (t1.below BL.out.size fun k hk => by omega))
    clear t1
    obtain ⟨q80, q81, q82, q83⟩ := B0.out.cells
    go_wp2_with fail
    generalize (w4.setCell ⟨x.heap.size, 1, none⟩ (.int .i64 ((atN c s1 : Int) + 1))) = w5 at *
    clear q60 q61 q62 q63 f70 f71 f72 f73 hw q80 q81 q82 q83
    have hT := dtake_any (o := o) (s := (tl s1)) (h.below BL.out) hs_tl 1 (by decide)
    rw [hst] at hT
    refine hT.mono ?_
    rintro e w6 ⟨rfl, hbw⟩
    have hs2 : (need ((tl s1)) 1).rest <:+ kt c.L := (need_suf _ 1).trans hs_tl
    replace B0 := Lib.hid (B0.out.on hbw)
    replace B1 := Lib.hid (B1.out.on hbw)
    replace B2 := Lib.hid (B2.out.on hbw)
    replace B4 := Lib.hid (B4.out.on hbw)
    replace BL := Lib.hid (BL.out.trans (hbw.mono BL.out.size))
    clear hT hbw
    generalize hA : tk ((tl s1)) 1 = B at *
    generalize hN : need ((tl s1)) 1 = s2 at *
    obtain ⟨q90, q91, q92, q93⟩ := B0.out.cells
    obtain ⟨f100, f101, f102, f103⟩ := B0.out.free
    have t1 : Turns (fun g => g = x.heap.size) w6 ((((w6.setCell ⟨x.heap.size, 0, none⟩ (.slice c.ao c.L.length c.cap)).setCell ⟨x.heap.size, 1, none⟩ (.int .i64 (atN c s2 : Nat))).setCell ⟨x.heap.size, 2, none⟩ (.int .i64 (o : Nat))).setCell ⟨x.heap.size, 3, none⟩ (.int .i64 (s2.err : Nat))) := (((((Turns.refl (fun g => g = x.heap.size) w6).setCell (p := ⟨x.heap.size, 0, none⟩) rfl (.slice c.ao c.L.length c.cap)).setCell (p := ⟨x.heap.size, 1, none⟩) rfl (.int .i64 (atN c s2 : Nat))).setCell (p := ⟨x.heap.size, 2, none⟩) rfl (.int .i64 (o : Nat))).setCell (p := ⟨x.heap.size, 3, none⟩) rfl (.int .i64 (s2.err : Nat)))
    replace B0 := Lib.hid (show C4 x.heap.size tSt (.slice c.ao c.L.length c.cap) (.int .i64 (atN c s2 : Nat)) (.int .i64 (o : Nat)) (.int .i64 (s2.err : Nat)) ((((w6.setCell ⟨x.heap.size, 0, none⟩ (.slice c.ao c.L.length c.cap)).setCell ⟨x.heap.size, 1, none⟩ (.int .i64 (atN c s2 : Nat))).setCell ⟨x.heap.size, 2, none⟩ (.int .i64 (o : Nat))).setCell ⟨x.heap.size, 3, none⟩ (.int .i64 (s2.err : Nat))) from (Lib.heap_setCell_same (i := 3) (Lib.heap_setCell_same (i := 2) (Lib.heap_setCell_same (i := 1) (Lib.heap_setCell_same (i := 0) B0.out (.slice c.ao c.L.length c.cap)) (.int .i64 (atN c s2 : Nat))) (.int .i64 (o : Nat))) (.int .i64 (s2.err : Nat))))
    replace B1 := Lib.hid (B1.out.turn t1 (by omega))
    replace B2 := Lib.hid (B2.out.turn t1 (by omega))
    replace B4 := Lib.hid (B4.out.turn t1 (by omega))
    replace BL := Lib.hid (BL.out.trans (t1.below BL.out.size fun k hk => by omega))
    clear t1
    obtain ⟨q110, q111, q112⟩ := B4.out.cells
    obtain ⟨f120, f121, f122⟩ := B4.out.free
    have t1 : Turns (fun g => g = x.heap.size + 1 + 1 + 1) ((((w6.setCell ⟨x.heap.size, 0, none⟩ (.slice c.ao c.L.length c.cap)).setCell ⟨x.heap.size, 1, none⟩ (.int .i64 (atN c s2 : Nat))).setCell ⟨x.heap.size, 2, none⟩ (.int .i64 (o : Nat))).setCell ⟨x.heap.size, 3, none⟩ (.int .i64 (s2.err : Nat))) (((((w6.setCell ⟨x.heap.size, 0, none⟩ (.slice c.ao c.L.length c.cap)).setCell ⟨x.heap.size, 1, none⟩ (.int .i64 (atN c s2 : Nat))).setCell ⟨x.heap.size, 2, none⟩ (.int .i64 (o : Nat))).setCell ⟨x.heap.size, 3, none⟩ (.int .i64 (s2.err : Nat))).setCell ⟨x.heap.size + 1 + 1 + 1, 1, none⟩ (.string B)) := ((Turns.refl (fun g => g = x.heap.size + 1 + 1 + 1) ((((w6.setCell ⟨x.heap.size, 0, none⟩ (.slice c.ao c.L.length c.cap)).setCell ⟨x.heap.size, 1, none⟩ (.int .i64 (atN c s2 : Nat))).setCell ⟨x.heap.size, 2, none⟩ (.int .i64 (o : Nat))).setCell ⟨x.heap.size, 3, none⟩ (.int .i64 (s2.err : Nat)))).setCell (p := ⟨x.heap.size + 1 + 1 + 1, 1, none⟩) rfl (.string B))
    replace B0 := Lib.hid (B0.out.turn t1 (by omega))
    replace B1 := Lib.hid (B1.out.turn t1 (by omega))
    replace B2 := Lib.hid (B2.out.turn t1 (by omega))
    replace B4 := Lib.hid (show C3 (x.heap.size + 1 + 1 + 1) tAl (.string A) (.string B) (.bool false) (((((w6.setCell ⟨x.heap.size, 0, none⟩ (.slice c.ao c.L.length c.cap)).setCell ⟨x.heap.size, 1, none⟩ (.int .i64 (atN c s2 : Nat))).setCell ⟨x.heap.size, 2, none⟩ (.int .i64 (o : Nat))).setCell ⟨x.heap.size, 3, none⟩ (.int .i64 (s2.err : Nat))).setCell ⟨x.heap.size + 1 + 1 + 1, 1, none⟩ (.string B)) from (Lib.heap_setCell_same (i := 1) B4.out (.string B)))
    replace BL := Lib.hid (BL.out.trans (t1.below BL.out.size fun k hk => by omega))
    clear t1
    go_wp2_with fail
    generalize (((((w6.setCell ⟨x.heap.size, 0, none⟩ (.slice c.ao c.L.length c.cap)).setCell ⟨x.heap.size, 1, none⟩ (.int .i64 (atN c s2 : Nat))).setCell ⟨x.heap.size, 2, none⟩ (.int .i64 (o : Nat))).setCell ⟨x.heap.size, 3, none⟩ (.int .i64 (s2.err : Nat))).setCell ⟨x.heap.size + 1 + 1 + 1, 1, none⟩ (.string B)) = w7 at *
    clear q90 q91 q92 q93 f100 f101 f102 f103 q110 q111 q112 f120 f121 f122
    replace B0 := Lib.hid (B0.out.on (Below.refl _ _).drew)
    replace B1 := Lib.hid (B1.out.on (Below.refl _ _).drew)
    replace B2 := Lib.hid (B2.out.on (Below.refl _ _).drew)
    replace B4 := Lib.hid (B4.out.on (Below.refl _ _).drew)
    replace BL := Lib.hid (BL.out.trans (((Below.refl w7.heap.size w7).drew).mono BL.out.size))
    refine Order.region_begin (S := Turns (Two x) w7.drew) (by kernel_rfl) ?_
    generalize w7.drew = w9 at *
    have HX := Lib.hid (show ∀ z, Turns (Two x) w9 z → _ from fun z hz => And.intro (B0.out.turn hz (by omega)).cells (B4.out.turn hz (by omega)).cells)
    refine Order.reads_any (idx := [0, 1]) (by kernel_rfl) (Turns.refl _ _) (fun _ _ _ _ _ h => Order.noPanic_put h) 2 _ _ (by decide +kernel) ?_
    simp only [Order.pick, List.getElem?_toArray, List.getElem?_cons_zero, List.getElem?_cons_succ]
    repeat (first
      | (refine Order.reads_off (by rfl) ?_
         simp only [Act.put, List.setIfInBounds_toArray, List.set_cons_zero, List.set_cons_succ])
      | (apply Order.reads_on
         · rfl
         · intro x hx
           first
             | (go_simp; rfl)
             | (obtain ⟨⟨i0, i1, i2, i3⟩, i4, i5, i6⟩ := HX.out x hx
                go_simp; rfl)
         simp only [Act.put, List.setIfInBounds_toArray, List.set_cons_zero, List.set_cons_succ]))
    refine Order.reads_end ?_
    clear HX
    obtain ⟨q130, q131, q132, q133⟩ := B1.out.cells
    obtain ⟨f140, f141, f142, f143⟩ := B1.out.free
    have t1 : Turns (fun g => g = x.heap.size + 1) w9 ((((w9.setCell ⟨x.heap.size + 1, 0, none⟩ (.slice c.ao c.L.length c.cap)).setCell ⟨x.heap.size + 1, 1, none⟩ (.int .i64 (atN c s2 : Nat))).setCell ⟨x.heap.size + 1, 2, none⟩ (.int .i64 (o : Nat))).setCell ⟨x.heap.size + 1, 3, none⟩ (.int .i64 (s2.err : Nat))) := (((((Turns.refl (fun g => g = x.heap.size + 1) w9).setCell (p := ⟨x.heap.size + 1, 0, none⟩) rfl (.slice c.ao c.L.length c.cap)).setCell (p := ⟨x.heap.size + 1, 1, none⟩) rfl (.int .i64 (atN c s2 : Nat))).setCell (p := ⟨x.heap.size + 1, 2, none⟩) rfl (.int .i64 (o : Nat))).setCell (p := ⟨x.heap.size + 1, 3, none⟩) rfl (.int .i64 (s2.err : Nat)))
    replace B1 := Lib.hid (show C4 (x.heap.size + 1) tSt (.slice c.ao c.L.length c.cap) (.int .i64 (atN c s2 : Nat)) (.int .i64 (o : Nat)) (.int .i64 (s2.err : Nat)) ((((w9.setCell ⟨x.heap.size + 1, 0, none⟩ (.slice c.ao c.L.length c.cap)).setCell ⟨x.heap.size + 1, 1, none⟩ (.int .i64 (atN c s2 : Nat))).setCell ⟨x.heap.size + 1, 2, none⟩ (.int .i64 (o : Nat))).setCell ⟨x.heap.size + 1, 3, none⟩ (.int .i64 (s2.err : Nat))) from (Lib.heap_setCell_same (i := 3) (Lib.heap_setCell_same (i := 2) (Lib.heap_setCell_same (i := 1) (Lib.heap_setCell_same (i := 0) B1.out (.slice c.ao c.L.length c.cap)) (.int .i64 (atN c s2 : Nat))) (.int .i64 (o : Nat))) (.int .i64 (s2.err : Nat))))
    replace B2 := Lib.hid (B2.out.turn t1 (by omega))
    replace BL := Lib.hid (BL.out.trans (t1.below BL.out.size fun k hk => by omega))
    clear t1
    have HT := Lib.hid (show Turns (Two x) w9 ((((w9.setCell ⟨x.heap.size + 1, 0, none⟩ (.slice c.ao c.L.length c.cap)).setCell ⟨x.heap.size + 1, 1, none⟩ (.int .i64 (atN c s2 : Nat))).setCell ⟨x.heap.size + 1, 2, none⟩ (.int .i64 (o : Nat))).setCell ⟨x.heap.size + 1, 3, none⟩ (.int .i64 (s2.err : Nat))) from Turns.mono (G := Two x) (((((Turns.refl (fun g => g = x.heap.size + 1) w9).setCell (p := ⟨x.heap.size + 1, 0, none⟩) rfl (.slice c.ao c.L.length c.cap)).setCell (p := ⟨x.heap.size + 1, 1, none⟩) rfl (.int .i64 (atN c s2 : Nat))).setCell (p := ⟨x.heap.size + 1, 2, none⟩) rfl (.int .i64 (o : Nat))).setCell (p := ⟨x.heap.size + 1, 3, none⟩) rfl (.int .i64 (s2.err : Nat))) fun _ _ h => .inl h)
    apply Order.acts_any (R := (Turns (Two x))) (fun h k => h.trans k fun _ _ h => h) (i := 2)
    · rfl
    · decide +kernel
    · rfl
    unfold Oper.wp
    go_simp
    refine ⟨HT.out, ?_⟩
    generalize ((((w9.setCell ⟨x.heap.size + 1, 0, none⟩ (.slice c.ao c.L.length c.cap)).setCell ⟨x.heap.size + 1, 1, none⟩ (.int .i64 (atN c s2 : Nat))).setCell ⟨x.heap.size + 1, 2, none⟩ (.int .i64 (o : Nat))).setCell ⟨x.heap.size + 1, 3, none⟩ (.int .i64 (s2.err : Nat))) = w10 at *
    clear HT
    clear q130 q131 q132 q133 f140 f141 f142 f143
    obtain ⟨q150, q151, q152⟩ := B2.out.cells
    obtain ⟨f160, f161, f162⟩ := B2.out.free
    have t1 : Turns (fun g => g = x.heap.size + 1 + 1) w10 (((w10.setCell ⟨x.heap.size + 1 + 1, 0, none⟩ (.string A)).setCell ⟨x.heap.size + 1 + 1, 1, none⟩ (.string B)).setCell ⟨x.heap.size + 1 + 1, 2, none⟩ (.bool false)) := ((((Turns.refl (fun g => g = x.heap.size + 1 + 1) w10).setCell (p := ⟨x.heap.size + 1 + 1, 0, none⟩) rfl (.string A)).setCell (p := ⟨x.heap.size + 1 + 1, 1, none⟩) rfl (.string B)).setCell (p := ⟨x.heap.size + 1 + 1, 2, none⟩) rfl (.bool false))
    replace B1 := Lib.hid (B1.out.turn t1 (by omega))
    replace B2 := Lib.hid (show C3 (x.heap.size + 1 + 1) tAl (.string A) (.string B) (.bool false) (((w10.setCell ⟨x.heap.size + 1 + 1, 0, none⟩ (.string A)).setCell ⟨x.heap.size + 1 + 1, 1, none⟩ (.string B)).setCell ⟨x.heap.size + 1 + 1, 2, none⟩ (.bool false)) from (Lib.heap_setCell_same (i := 2) (Lib.heap_setCell_same (i := 1) (Lib.heap_setCell_same (i := 0) B2.out (.string A)) (.string B)) (.bool false)))
    replace BL := Lib.hid (BL.out.trans (t1.below BL.out.size fun k hk => by omega))
    clear t1
    have HT := Lib.hid (show Turns (Two x) w10 (((w10.setCell ⟨x.heap.size + 1 + 1, 0, none⟩ (.string A)).setCell ⟨x.heap.size + 1 + 1, 1, none⟩ (.string B)).setCell ⟨x.heap.size + 1 + 1, 2, none⟩ (.bool false)) from Turns.mono (G := Two x) ((((Turns.refl (fun g => g = x.heap.size + 1 + 1) w10).setCell (p := ⟨x.heap.size + 1 + 1, 0, none⟩) rfl (.string A)).setCell (p := ⟨x.heap.size + 1 + 1, 1, none⟩) rfl (.string B)).setCell (p := ⟨x.heap.size + 1 + 1, 2, none⟩) rfl (.bool false)) fun _ _ h => .inr h)
    apply Order.acts_any (R := (Turns (Two x))) (fun h k => h.trans k fun _ _ h => h) (i := 3)
    · rfl
    · decide +kernel
    · rfl
    unfold Oper.wp
    go_simp
    refine ⟨HT.out, ?_⟩
    generalize (((w10.setCell ⟨x.heap.size + 1 + 1, 0, none⟩ (.string A)).setCell ⟨x.heap.size + 1 + 1, 1, none⟩ (.string B)).setCell ⟨x.heap.size + 1 + 1, 2, none⟩ (.bool false)) = w11 at *
    clear HT
    clear q150 q151 q152 f160 f161 f162
    refine wpAnyH_done (by decide +kernel) ?_ _
    refine NoPanic.normal ?_
    go_wp2_with fail
    obtain ⟨g0, g1, g2, g3⟩ := B1.out.cells
    obtain ⟨k0, k1, k2⟩ := B2.out.cells
    refine bodyPost_ret (v := .tuple #[.agg #[.slice c.ao c.L.length c.cap, .int .i64 (atN c s2 : Nat), .int .i64 (o : Nat), .int .i64 (s2.err : Nat)], .agg #[.string A, .string B, .bool false]]) (by simp [results, Tryd.results76, go_sem, g0, g1, g2, g3, k0, k1, k2]) rfl ⟨.agg #[.string A, .string B, .bool false], ?_, ?_, BL.out⟩
    · rw [HQ.out, show stV c o (_, s2).2 = stV c o s2 from rfl]
    · rw [HQ.out]
      rfl
  · replace HQ := Lib.hid (HQ.out.trans (if_neg h35))
    have e35 : (next s1 == 35) = false := by simpa using h35
    obtain ⟨q60, q61, q62, q63⟩ := B0.out.cells
    go_wp2_with fail
    clear q60 q61 q62 q63
    have hK := dkind_any (o := o) (s := s1) (h.below BL.out) hs1
    refine hK.mono ?_
    rintro e w5 ⟨rfl, hbw⟩
    replace B0 := Lib.hid (B0.out.on hbw)
    replace B1 := Lib.hid (B1.out.on hbw)
    replace B2 := Lib.hid (B2.out.on hbw)
    replace B4 := Lib.hid (B4.out.on hbw)
    replace BL := Lib.hid (BL.out.trans (hbw.mono BL.out.size))
    clear hK hbw
    by_cases h58 : next s1 = 58
    · replace HQ := Lib.hid (HQ.out.trans (if_pos h58))
      have e58 : (next s1 == 58) = true := by rw [h58]; rfl
      have hst := stV_tl1 (o := o) hs1 (by rw [h58]; decide)
      have hw := at_wrap h s1
      have hs_tl : (tl s1).rest <:+ kt c.L := (tl_suf s1).trans hs1
      obtain ⟨q70, q71, q72, q73⟩ := B0.out.cells
      obtain ⟨f80, f81, f82, f83⟩ := B0.out.free
      have t1 : Turns (fun g => g = x.heap.size) w5 (w5.setCell ⟨x.heap.size, 1, none⟩ (.int .i64 ((atN c s1 : Int) + 1))) := ((Turns.refl (fun g => g = x.heap.size) w5).setCell (p := ⟨x.heap.size, 1, none⟩) rfl (.int .i64 ((atN c s1 : Int) + 1)))
      replace B0 := Lib.hid (show C4 x.heap.size tSt (.slice c.ao c.L.length c.cap) (.int .i64 ((atN c s1 : Int) + 1)) (.int .i64 (o : Nat)) (.int .i64 (s1.err : Nat)) (w5.setCell ⟨x.heap.size, 1, none⟩ (.int .i64 ((atN c s1 : Int) + 1))) from (Lib.heap_setCell_same (i := 1) B0.out (.int .i64 ((atN c s1 : Int) + 1))))
      replace B1 := Lib.hid (B1.out.turn t1 (by omega))
      replace B2 := Lib.hid (B2.out.turn t1 (by omega))
      replace B4 := Lib.hid (B4.out.turn t1 (by omega))
      replace BL := Lib.hid (BL.out.trans (t1.below BL.out.size fun k hk => by omega))
      clear t1
      obtain ⟨q90, q91, q92, q93⟩ := B0.out.cells
      go_wp2_with fail
      generalize (w5.setCell ⟨x.heap.size, 1, none⟩ (.int .i64 ((atN c s1 : Int) + 1))) = w6 at *
      clear q70 q71 q72 q73 f80 f81 f82 f83 hw q90 q91 q92 q93
      have hT := dtake_any (o := o) (s := (tl s1)) (h.below BL.out) hs_tl 42 (by decide)
      rw [hst] at hT
      refine hT.mono ?_
      rintro e w7 ⟨rfl, hbw⟩
      have hs2 : (need ((tl s1)) 42).rest <:+ kt c.L := (need_suf _ 42).trans hs_tl
      replace B0 := Lib.hid (B0.out.on hbw)
      replace B1 := Lib.hid (B1.out.on hbw)
      replace B2 := Lib.hid (B2.out.on hbw)
      replace B4 := Lib.hid (B4.out.on hbw)
      replace BL := Lib.hid (BL.out.trans (hbw.mono BL.out.size))
      clear hT hbw
      generalize hA : tk ((tl s1)) 42 = B at *
      generalize hN : need ((tl s1)) 42 = s2 at *
      obtain ⟨q100, q101, q102, q103⟩ := B0.out.cells
      obtain ⟨f110, f111, f112, f113⟩ := B0.out.free
      have t1 : Turns (fun g => g = x.heap.size) w7 ((((w7.setCell ⟨x.heap.size, 0, none⟩ (.slice c.ao c.L.length c.cap)).setCell ⟨x.heap.size, 1, none⟩ (.int .i64 (atN c s2 : Nat))).setCell ⟨x.heap.size, 2, none⟩ (.int .i64 (o : Nat))).setCell ⟨x.heap.size, 3, none⟩ (.int .i64 (s2.err : Nat))) := (((((Turns.refl (fun g => g = x.heap.size) w7).setCell (p := ⟨x.heap.size, 0, none⟩) rfl (.slice c.ao c.L.length c.cap)).setCell (p := ⟨x.heap.size, 1, none⟩) rfl (.int .i64 (atN c s2 : Nat))).setCell (p := ⟨x.heap.size, 2, none⟩) rfl (.int .i64 (o : Nat))).setCell (p := ⟨x.heap.size, 3, none⟩) rfl (.int .i64 (s2.err : Nat)))
      replace B0 := Lib.hid (show C4 x.heap.size tSt (.slice c.ao c.L.length c.cap) (.int .i64 (atN c s2 : Nat)) (.int .i64 (o : Nat)) (.int .i64 (s2.err : Nat)) ((((w7.setCell ⟨x.heap.size, 0, none⟩ (.slice c.ao c.L.length c.cap)).setCell ⟨x.heap.size, 1, none⟩ (.int .i64 (atN c s2 : Nat))).setCell ⟨x.heap.size, 2, none⟩ (.int .i64 (o : Nat))).setCell ⟨x.heap.size, 3, none⟩ (.int .i64 (s2.err : Nat))) from (Lib.heap_setCell_same (i := 3) (Lib.heap_setCell_same (i := 2) (Lib.heap_setCell_same (i := 1) (Lib.heap_setCell_same (i := 0) B0.out (.slice c.ao c.L.length c.cap)) (.int .i64 (atN c s2 : Nat))) (.int .i64 (o : Nat))) (.int .i64 (s2.err : Nat))))
      replace B1 := Lib.hid (B1.out.turn t1 (by omega))
      replace B2 := Lib.hid (B2.out.turn t1 (by omega))
      replace B4 := Lib.hid (B4.out.turn t1 (by omega))
      replace BL := Lib.hid (BL.out.trans (t1.below BL.out.size fun k hk => by omega))
      clear t1
      obtain ⟨q120, q121, q122⟩ := B4.out.cells
      obtain ⟨f130, f131, f132⟩ := B4.out.free
      have t1 : Turns (fun g => g = x.heap.size + 1 + 1 + 1) ((((w7.setCell ⟨x.heap.size, 0, none⟩ (.slice c.ao c.L.length c.cap)).setCell ⟨x.heap.size, 1, none⟩ (.int .i64 (atN c s2 : Nat))).setCell ⟨x.heap.size, 2, none⟩ (.int .i64 (o : Nat))).setCell ⟨x.heap.size, 3, none⟩ (.int .i64 (s2.err : Nat))) (((((w7.setCell ⟨x.heap.size, 0, none⟩ (.slice c.ao c.L.length c.cap)).setCell ⟨x.heap.size, 1, none⟩ (.int .i64 (atN c s2 : Nat))).setCell ⟨x.heap.size, 2, none⟩ (.int .i64 (o : Nat))).setCell ⟨x.heap.size, 3, none⟩ (.int .i64 (s2.err : Nat))).setCell ⟨x.heap.size + 1 + 1 + 1, 2, none⟩ (.bool true)) := ((Turns.refl (fun g => g = x.heap.size + 1 + 1 + 1) ((((w7.setCell ⟨x.heap.size, 0, none⟩ (.slice c.ao c.L.length c.cap)).setCell ⟨x.heap.size, 1, none⟩ (.int .i64 (atN c s2 : Nat))).setCell ⟨x.heap.size, 2, none⟩ (.int .i64 (o : Nat))).setCell ⟨x.heap.size, 3, none⟩ (.int .i64 (s2.err : Nat)))).setCell (p := ⟨x.heap.size + 1 + 1 + 1, 2, none⟩) rfl (.bool true))
      replace B0 := Lib.hid (B0.out.turn t1 (by omega))
      replace B1 := Lib.hid (B1.out.turn t1 (by omega))
      replace B2 := Lib.hid (B2.out.turn t1 (by omega))
      replace B4 := Lib.hid (show C3 (x.heap.size + 1 + 1 + 1) tAl (.string A) (.string ⟨#[]⟩) (.bool true) (((((w7.setCell ⟨x.heap.size, 0, none⟩ (.slice c.ao c.L.length c.cap)).setCell ⟨x.heap.size, 1, none⟩ (.int .i64 (atN c s2 : Nat))).setCell ⟨x.heap.size, 2, none⟩ (.int .i64 (o : Nat))).setCell ⟨x.heap.size, 3, none⟩ (.int .i64 (s2.err : Nat))).setCell ⟨x.heap.size + 1 + 1 + 1, 2, none⟩ (.bool true)) from (Lib.heap_setCell_same (i := 2) B4.out (.bool true)))
      replace BL := Lib.hid (BL.out.trans (t1.below BL.out.size fun k hk => by omega))
      clear t1
      go_wp2_with fail
      generalize (((((w7.setCell ⟨x.heap.size, 0, none⟩ (.slice c.ao c.L.length c.cap)).setCell ⟨x.heap.size, 1, none⟩ (.int .i64 (atN c s2 : Nat))).setCell ⟨x.heap.size, 2, none⟩ (.int .i64 (o : Nat))).setCell ⟨x.heap.size, 3, none⟩ (.int .i64 (s2.err : Nat))).setCell ⟨x.heap.size + 1 + 1 + 1, 2, none⟩ (.bool true)) = w8 at *
      clear q100 q101 q102 q103 f110 f111 f112 f113 q120 q121 q122 f130 f131 f132
      replace B0 := Lib.hid (B0.out.on (Below.refl _ _).drew)
      replace B1 := Lib.hid (B1.out.on (Below.refl _ _).drew)
      replace B2 := Lib.hid (B2.out.on (Below.refl _ _).drew)
      replace B4 := Lib.hid (B4.out.on (Below.refl _ _).drew)
      replace BL := Lib.hid (BL.out.trans (((Below.refl w8.heap.size w8).drew).mono BL.out.size))
      refine Order.region_begin (S := Turns (Two x) w8.drew) (by kernel_rfl) ?_
      generalize w8.drew = w9 at *
      have HX := Lib.hid (show ∀ z, Turns (Two x) w9 z → _ from fun z hz => And.intro (B0.out.turn hz (by omega)).cells (B4.out.turn hz (by omega)).cells)
      refine Order.reads_any (idx := [0, 1]) (by kernel_rfl) (Turns.refl _ _) (fun _ _ _ _ _ h => Order.noPanic_put h) 2 _ _ (by decide +kernel) ?_
      simp only [Order.pick, List.getElem?_toArray, List.getElem?_cons_zero, List.getElem?_cons_succ]
      repeat (first
        | (refine Order.reads_off (by rfl) ?_
           simp only [Act.put, List.setIfInBounds_toArray, List.set_cons_zero, List.set_cons_succ])
        | (apply Order.reads_on
           · rfl
           · intro x hx
             first
               | (go_simp; rfl)
               | (obtain ⟨⟨i0, i1, i2, i3⟩, i4, i5, i6⟩ := HX.out x hx
                  go_simp; rfl)
           simp only [Act.put, List.setIfInBounds_toArray, List.set_cons_zero, List.set_cons_succ]))
      refine Order.reads_end ?_
      clear HX
      obtain ⟨q140, q141, q142, q143⟩ := B1.out.cells
      obtain ⟨f150, f151, f152, f153⟩ := B1.out.free
      have t1 : Turns (fun g => g = x.heap.size + 1) w9 ((((w9.setCell ⟨x.heap.size + 1, 0, none⟩ (.slice c.ao c.L.length c.cap)).setCell ⟨x.heap.size + 1, 1, none⟩ (.int .i64 (atN c s2 : Nat))).setCell ⟨x.heap.size + 1, 2, none⟩ (.int .i64 (o : Nat))).setCell ⟨x.heap.size + 1, 3, none⟩ (.int .i64 (s2.err : Nat))) := (((((Turns.refl (fun g => g = x.heap.size + 1) w9).setCell (p := ⟨x.heap.size + 1, 0, none⟩) rfl (.slice c.ao c.L.length c.cap)).setCell (p := ⟨x.heap.size + 1, 1, none⟩) rfl (.int .i64 (atN c s2 : Nat))).setCell (p := ⟨x.heap.size + 1, 2, none⟩) rfl (.int .i64 (o : Nat))).setCell (p := ⟨x.heap.size + 1, 3, none⟩) rfl (.int .i64 (s2.err : Nat)))
      replace B1 := Lib.hid (show C4 (x.heap.size + 1) tSt (.slice c.ao c.L.length c.cap) (.int .i64 (atN c s2 : Nat)) (.int .i64 (o : Nat)) (.int .i64 (s2.err : Nat)) ((((w9.setCell ⟨x.heap.size + 1, 0, none⟩ (.slice c.ao c.L.length c.cap)).setCell ⟨x.heap.size + 1, 1, none⟩ (.int .i64 (atN c s2 : Nat))).setCell ⟨x.heap.size + 1, 2, none⟩ (.int .i64 (o : Nat))).setCell ⟨x.heap.size + 1, 3, none⟩ (.int .i64 (s2.err : Nat))) from (Lib.heap_setCell_same (i := 3) (Lib.heap_setCell_same (i := 2) (Lib.heap_setCell_same (i := 1) (Lib.heap_setCell_same (i := 0) B1.out (.slice c.ao c.L.length c.cap)) (.int .i64 (atN c s2 : Nat))) (.int .i64 (o : Nat))) (.int .i64 (s2.err : Nat))))
      replace B2 := Lib.hid (B2.out.turn t1 (by omega))
      replace BL := Lib.hid (BL.out.trans (t1.below BL.out.size fun k hk => by omega))
      clear t1
      have HT := Lib.hid (show Turns (Two x) w9 ((((w9.setCell ⟨x.heap.size + 1, 0, none⟩ (.slice c.ao c.L.length c.cap)).setCell ⟨x.heap.size + 1, 1, none⟩ (.int .i64 (atN c s2 : Nat))).setCell ⟨x.heap.size + 1, 2, none⟩ (.int .i64 (o : Nat))).setCell ⟨x.heap.size + 1, 3, none⟩ (.int .i64 (s2.err : Nat))) from Turns.mono (G := Two x) (((((Turns.refl (fun g => g = x.heap.size + 1) w9).setCell (p := ⟨x.heap.size + 1, 0, none⟩) rfl (.slice c.ao c.L.length c.cap)).setCell (p := ⟨x.heap.size + 1, 1, none⟩) rfl (.int .i64 (atN c s2 : Nat))).setCell (p := ⟨x.heap.size + 1, 2, none⟩) rfl (.int .i64 (o : Nat))).setCell (p := ⟨x.heap.size + 1, 3, none⟩) rfl (.int .i64 (s2.err : Nat))) fun _ _ h => .inl h)
      apply Order.acts_any (R := (Turns (Two x))) (fun h k => h.trans k fun _ _ h => h) (i := 2)
      · rfl
      · decide +kernel
      · rfl
      unfold Oper.wp
      go_simp
      refine ⟨HT.out, ?_⟩
      generalize ((((w9.setCell ⟨x.heap.size + 1, 0, none⟩ (.slice c.ao c.L.length c.cap)).setCell ⟨x.heap.size + 1, 1, none⟩ (.int .i64 (atN c s2 : Nat))).setCell ⟨x.heap.size + 1, 2, none⟩ (.int .i64 (o : Nat))).setCell ⟨x.heap.size + 1, 3, none⟩ (.int .i64 (s2.err : Nat))) = w10 at *
      clear HT
      clear q140 q141 q142 q143 f150 f151 f152 f153
      obtain ⟨q160, q161, q162⟩ := B2.out.cells
      obtain ⟨f170, f171, f172⟩ := B2.out.free
      have t1 : Turns (fun g => g = x.heap.size + 1 + 1) w10 (((w10.setCell ⟨x.heap.size + 1 + 1, 0, none⟩ (.string A)).setCell ⟨x.heap.size + 1 + 1, 1, none⟩ (.string ⟨#[]⟩)).setCell ⟨x.heap.size + 1 + 1, 2, none⟩ (.bool true)) := ((((Turns.refl (fun g => g = x.heap.size + 1 + 1) w10).setCell (p := ⟨x.heap.size + 1 + 1, 0, none⟩) rfl (.string A)).setCell (p := ⟨x.heap.size + 1 + 1, 1, none⟩) rfl (.string ⟨#[]⟩)).setCell (p := ⟨x.heap.size + 1 + 1, 2, none⟩) rfl (.bool true))
      replace B1 := Lib.hid (B1.out.turn t1 (by omega))
      replace B2 := Lib.hid (show C3 (x.heap.size + 1 + 1) tAl (.string A) (.string ⟨#[]⟩) (.bool true) (((w10.setCell ⟨x.heap.size + 1 + 1, 0, none⟩ (.string A)).setCell ⟨x.heap.size + 1 + 1, 1, none⟩ (.string ⟨#[]⟩)).setCell ⟨x.heap.size + 1 + 1, 2, none⟩ (.bool true)) from (Lib.heap_setCell_same (i := 2) (Lib.heap_setCell_same (i := 1) (Lib.heap_setCell_same (i := 0) B2.out (.string A)) (.string ⟨#[]⟩)) (.bool true)))
      replace BL := Lib.hid (BL.out.trans (t1.below BL.out.size fun k hk => by omega))
      clear t1
      have HT := Lib.hid (show Turns (Two x) w10 (((w10.setCell ⟨x.heap.size + 1 + 1, 0, none⟩ (.string A)).setCell ⟨x.heap.size + 1 + 1, 1, none⟩ (.string ⟨#[]⟩)).setCell ⟨x.heap.size + 1 + 1, 2, none⟩ (.bool true)) from Turns.mono (G := Two x) ((((Turns.refl (fun g => g = x.heap.size + 1 + 1) w10).setCell (p := ⟨x.heap.size + 1 + 1, 0, none⟩) rfl (.string A)).setCell (p := ⟨x.heap.size + 1 + 1, 1, none⟩) rfl (.string ⟨#[]⟩)).setCell (p := ⟨x.heap.size + 1 + 1, 2, none⟩) rfl (.bool true)) fun _ _ h => .inr h)
      apply Order.acts_any (R := (Turns (Two x))) (fun h k => h.trans k fun _ _ h => h) (i := 3)
      · rfl
      · decide +kernel
      · rfl
      unfold Oper.wp
      go_simp
      refine ⟨HT.out, ?_⟩
      generalize (((w10.setCell ⟨x.heap.size + 1 + 1, 0, none⟩ (.string A)).setCell ⟨x.heap.size + 1 + 1, 1, none⟩ (.string ⟨#[]⟩)).setCell ⟨x.heap.size + 1 + 1, 2, none⟩ (.bool true)) = w11 at *
      clear HT
      clear q160 q161 q162 f170 f171 f172
      refine wpAnyH_done (by decide +kernel) ?_ _
      refine NoPanic.normal ?_
      go_wp2_with fail
      obtain ⟨g0, g1, g2, g3⟩ := B1.out.cells
      obtain ⟨k0, k1, k2⟩ := B2.out.cells
      refine bodyPost_ret (v := .tuple #[.agg #[.slice c.ao c.L.length c.cap, .int .i64 (atN c s2 : Nat), .int .i64 (o : Nat), .int .i64 (s2.err : Nat)], .agg #[.string A, .string ⟨#[]⟩, .bool true]]) (by simp [results, Tryd.results76, go_sem, g0, g1, g2, g3, k0, k1, k2]) rfl ⟨.agg #[.string A, .string ⟨#[]⟩, .bool true], ?_, ?_, BL.out⟩
      · rw [HQ.out, show stV c o (_, s2).2 = stV c o s2 from rfl]
      · rw [HQ.out]
        rfl
    · replace HQ := Lib.hid (HQ.out.trans (if_neg h58))
      have e58 : (next s1 == 58) = false := by simpa using h58
      go_wp2_with fail
      replace B0 := Lib.hid (B0.out.on (Below.refl _ _).drew)
      replace B1 := Lib.hid (B1.out.on (Below.refl _ _).drew)
      replace B2 := Lib.hid (B2.out.on (Below.refl _ _).drew)
      replace B4 := Lib.hid (B4.out.on (Below.refl _ _).drew)
      replace BL := Lib.hid (BL.out.trans (((Below.refl w5.heap.size w5).drew).mono BL.out.size))
      refine Order.region_begin (S := Turns (Two x) w5.drew) (by kernel_rfl) ?_
      generalize w5.drew = w9 at *
      have HX := Lib.hid (show ∀ z, Turns (Two x) w9 z → _ from fun z hz => And.intro (B0.out.turn hz (by omega)).cells (B4.out.turn hz (by omega)).cells)
      refine Order.reads_any (idx := [0, 1]) (by kernel_rfl) (Turns.refl _ _) (fun _ _ _ _ _ h => Order.noPanic_put h) 2 _ _ (by decide +kernel) ?_
      simp only [Order.pick, List.getElem?_toArray, List.getElem?_cons_zero, List.getElem?_cons_succ]
      repeat (first
        | (refine Order.reads_off (by rfl) ?_
           simp only [Act.put, List.setIfInBounds_toArray, List.set_cons_zero, List.set_cons_succ])
        | (apply Order.reads_on
           · rfl
           · intro x hx
             first
               | (go_simp; rfl)
               | (obtain ⟨⟨i0, i1, i2, i3⟩, i4, i5, i6⟩ := HX.out x hx
                  go_simp; rfl)
           simp only [Act.put, List.setIfInBounds_toArray, List.set_cons_zero, List.set_cons_succ]))
      refine Order.reads_end ?_
      clear HX
      obtain ⟨q70, q71, q72, q73⟩ := B1.out.cells
      obtain ⟨f80, f81, f82, f83⟩ := B1.out.free
      have t1 : Turns (fun g => g = x.heap.size + 1) w9 ((((w9.setCell ⟨x.heap.size + 1, 0, none⟩ (.slice c.ao c.L.length c.cap)).setCell ⟨x.heap.size + 1, 1, none⟩ (.int .i64 (atN c s1 : Nat))).setCell ⟨x.heap.size + 1, 2, none⟩ (.int .i64 (o : Nat))).setCell ⟨x.heap.size + 1, 3, none⟩ (.int .i64 (s1.err : Nat))) := (((((Turns.refl (fun g => g = x.heap.size + 1) w9).setCell (p := ⟨x.heap.size + 1, 0, none⟩) rfl (.slice c.ao c.L.length c.cap)).setCell (p := ⟨x.heap.size + 1, 1, none⟩) rfl (.int .i64 (atN c s1 : Nat))).setCell (p := ⟨x.heap.size + 1, 2, none⟩) rfl (.int .i64 (o : Nat))).setCell (p := ⟨x.heap.size + 1, 3, none⟩) rfl (.int .i64 (s1.err : Nat)))
      replace B1 := Lib.hid (show C4 (x.heap.size + 1) tSt (.slice c.ao c.L.length c.cap) (.int .i64 (atN c s1 : Nat)) (.int .i64 (o : Nat)) (.int .i64 (s1.err : Nat)) ((((w9.setCell ⟨x.heap.size + 1, 0, none⟩ (.slice c.ao c.L.length c.cap)).setCell ⟨x.heap.size + 1, 1, none⟩ (.int .i64 (atN c s1 : Nat))).setCell ⟨x.heap.size + 1, 2, none⟩ (.int .i64 (o : Nat))).setCell ⟨x.heap.size + 1, 3, none⟩ (.int .i64 (s1.err : Nat))) from (Lib.heap_setCell_same (i := 3) (Lib.heap_setCell_same (i := 2) (Lib.heap_setCell_same (i := 1) (Lib.heap_setCell_same (i := 0) B1.out (.slice c.ao c.L.length c.cap)) (.int .i64 (atN c s1 : Nat))) (.int .i64 (o : Nat))) (.int .i64 (s1.err : Nat))))
      replace B2 := Lib.hid (B2.out.turn t1 (by omega))
      replace BL := Lib.hid (BL.out.trans (t1.below BL.out.size fun k hk => by omega))
      clear t1
      have HT := Lib.hid (show Turns (Two x) w9 ((((w9.setCell ⟨x.heap.size + 1, 0, none⟩ (.slice c.ao c.L.length c.cap)).setCell ⟨x.heap.size + 1, 1, none⟩ (.int .i64 (atN c s1 : Nat))).setCell ⟨x.heap.size + 1, 2, none⟩ (.int .i64 (o : Nat))).setCell ⟨x.heap.size + 1, 3, none⟩ (.int .i64 (s1.err : Nat))) from Turns.mono (G := Two x) (((((Turns.refl (fun g => g = x.heap.size + 1) w9).setCell (p := ⟨x.heap.size + 1, 0, none⟩) rfl (.slice c.ao c.L.length c.cap)).setCell (p := ⟨x.heap.size + 1, 1, none⟩) rfl (.int .i64 (atN c s1 : Nat))).setCell (p := ⟨x.heap.size + 1, 2, none⟩) rfl (.int .i64 (o : Nat))).setCell (p := ⟨x.heap.size + 1, 3, none⟩) rfl (.int .i64 (s1.err : Nat))) fun _ _ h => .inl h)
      apply Order.acts_any (R := (Turns (Two x))) (fun h k => h.trans k fun _ _ h => h) (i := 2)
      · rfl
      · decide +kernel
      · rfl
      unfold Oper.wp
      go_simp
      refine ⟨HT.out, ?_⟩
      generalize ((((w9.setCell ⟨x.heap.size + 1, 0, none⟩ (.slice c.ao c.L.length c.cap)).setCell ⟨x.heap.size + 1, 1, none⟩ (.int .i64 (atN c s1 : Nat))).setCell ⟨x.heap.size + 1, 2, none⟩ (.int .i64 (o : Nat))).setCell ⟨x.heap.size + 1, 3, none⟩ (.int .i64 (s1.err : Nat))) = w10 at *
      clear HT
      clear q70 q71 q72 q73 f80 f81 f82 f83
      obtain ⟨q90, q91, q92⟩ := B2.out.cells
      obtain ⟨f100, f101, f102⟩ := B2.out.free
      have t1 : Turns (fun g => g = x.heap.size + 1 + 1) w10 (((w10.setCell ⟨x.heap.size + 1 + 1, 0, none⟩ (.string A)).setCell ⟨x.heap.size + 1 + 1, 1, none⟩ (.string ⟨#[]⟩)).setCell ⟨x.heap.size + 1 + 1, 2, none⟩ (.bool false)) := ((((Turns.refl (fun g => g = x.heap.size + 1 + 1) w10).setCell (p := ⟨x.heap.size + 1 + 1, 0, none⟩) rfl (.string A)).setCell (p := ⟨x.heap.size + 1 + 1, 1, none⟩) rfl (.string ⟨#[]⟩)).setCell (p := ⟨x.heap.size + 1 + 1, 2, none⟩) rfl (.bool false))
      replace B1 := Lib.hid (B1.out.turn t1 (by omega))
      replace B2 := Lib.hid (show C3 (x.heap.size + 1 + 1) tAl (.string A) (.string ⟨#[]⟩) (.bool false) (((w10.setCell ⟨x.heap.size + 1 + 1, 0, none⟩ (.string A)).setCell ⟨x.heap.size + 1 + 1, 1, none⟩ (.string ⟨#[]⟩)).setCell ⟨x.heap.size + 1 + 1, 2, none⟩ (.bool false)) from (Lib.heap_setCell_same (i := 2) (Lib.heap_setCell_same (i := 1) (Lib.heap_setCell_same (i := 0) B2.out (.string A)) (.string ⟨#[]⟩)) (.bool false)))
      replace BL := Lib.hid (BL.out.trans (t1.below BL.out.size fun k hk => by omega))
      clear t1
      have HT := Lib.hid (show Turns (Two x) w10 (((w10.setCell ⟨x.heap.size + 1 + 1, 0, none⟩ (.string A)).setCell ⟨x.heap.size + 1 + 1, 1, none⟩ (.string ⟨#[]⟩)).setCell ⟨x.heap.size + 1 + 1, 2, none⟩ (.bool false)) from Turns.mono (G := Two x) ((((Turns.refl (fun g => g = x.heap.size + 1 + 1) w10).setCell (p := ⟨x.heap.size + 1 + 1, 0, none⟩) rfl (.string A)).setCell (p := ⟨x.heap.size + 1 + 1, 1, none⟩) rfl (.string ⟨#[]⟩)).setCell (p := ⟨x.heap.size + 1 + 1, 2, none⟩) rfl (.bool false)) fun _ _ h => .inr h)
      apply Order.acts_any (R := (Turns (Two x))) (fun h k => h.trans k fun _ _ h => h) (i := 3)
      · rfl
      · decide +kernel
      · rfl
      unfold Oper.wp
      go_simp
      refine ⟨HT.out, ?_⟩
      generalize (((w10.setCell ⟨x.heap.size + 1 + 1, 0, none⟩ (.string A)).setCell ⟨x.heap.size + 1 + 1, 1, none⟩ (.string ⟨#[]⟩)).setCell ⟨x.heap.size + 1 + 1, 2, none⟩ (.bool false)) = w11 at *
      clear HT
      clear q90 q91 q92 f100 f101 f102
      refine wpAnyH_done (by decide +kernel) ?_ _
      refine NoPanic.normal ?_
      go_wp2_with fail
      obtain ⟨g0, g1, g2, g3⟩ := B1.out.cells
      obtain ⟨k0, k1, k2⟩ := B2.out.cells
      refine bodyPost_ret (v := .tuple #[.agg #[.slice c.ao c.L.length c.cap, .int .i64 (atN c s1 : Nat), .int .i64 (o : Nat), .int .i64 (s1.err : Nat)], .agg #[.string A, .string ⟨#[]⟩, .bool false]]) (by simp [results, Tryd.results76, go_sem, g0, g1, g2, g3, k0, k1, k2]) rfl ⟨.agg #[.string A, .string ⟨#[]⟩, .bool false], ?_, ?_, BL.out⟩
      · rw [HQ.out, show stV c o (_, s1).2 = stV c o s1 from rfl]
      · rw [HQ.out]
        rfl
end Gr
end Go.Proofs.YtbphmaoomnocmaaDoor
