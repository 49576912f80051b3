/-
  Layer 7's document: Config. Written by gen/mk_dc2.py and ord.py.
-/
import Derived.Test.YtbphmaoomnocmaaDoorGrDrl
namespace Go.Proofs.YtbphmaoomnocmaaDoor
open Go.RowKit
namespace Gr
open Knot (Turns NewRow)
open Tr (Nd none0 node4 own_slice Box4)
open Sg (Tok kt TokAt txt)

/-- A type out of its row of relations. -/
theorem RowX.ty {X : Nat → Prop} {w : World} {B : Nat} {A : ByteArray} {m : List Rl} {mo : Option Addr} {mc : Nat} (h : RowX relE X w B tRl (.slice mo m.length mc) m) :
    TyS (fun g => B ≤ g ∧ ¬ X g) w ⟨A, m⟩ (.agg #[.string A, .slice mo m.length mc]) := by
  have hk := fun {k} hk => h.own_lt (k := k) hk
  obtain ⟨h0, vs, h1, h2, h3⟩ := h
  exact ⟨mo, mc, vs, B, rfl, h1, h2, fun k e => ⟨(hk e).1, h0 k e⟩, fun i a u hi hu => Elt.mono (E := relE) (h3 i a u hi hu) fun g hg _ => ⟨hg.1, hg.2.2⟩⟩
/-- What Config's loop keeps. -/
structure Dc (c : DCtx) (o : Nat) (x : World) (r : List Ty × St) (l : List Ty) (lo : Option Addr) (lc : Nat) (si : St) (w : World) : Prop where
  b0 : C4 x.heap.size tSt (.slice c.ao c.L.length c.cap) (.int .i64 (atN c si : Nat)) (.int .i64 (o : Nat)) (.int .i64 (si.err : Nat)) w
  b1 : C4 (x.heap.size + 1) tSt (.slice none 0 0) (.int .i64 0) (.int .i64 0) (.int .i64 0) w
  b2 : C1 (x.heap.size + 1 + 1) tCf (.slice none 0 0) w
  b4 : C1 (x.heap.size + 1 + 1 + 1) tCf (.slice lo l.length lc) w
  below : Below x.heap.size x w
  row : RowX tyE (fun _ => False) w (x.heap.size + 4) tTy (.slice lo l.length lc) l
  suf : si.rest <:+ kt c.L
  more : (l ++ (eachs typ 2 si).1, (eachs typ 2 si).2) = r
  len : l.length + si.rest.length ≤ 10001
/-- What the loop over a type's relations keeps. -/
structure Di (c : DCtx) (o : Nat) (x : World) (A : ByteArray) (l : List Ty) (lo : Option Addr) (lc CR R5 : Nat) (r : List Rl × St) (m : List Rl) (mo : Option Addr) (mc : Nat) (sj : St) (w : World) : Prop where
  b0 : C4 x.heap.size tSt (.slice c.ao c.L.length c.cap) (.int .i64 (atN c sj : Nat)) (.int .i64 (o : Nat)) (.int .i64 (sj.err : Nat)) w
  b1 : C4 (x.heap.size + 1) tSt (.slice none 0 0) (.int .i64 0) (.int .i64 0) (.int .i64 0) w
  b2 : C1 (x.heap.size + 1 + 1) tCf (.slice none 0 0) w
  b4 : C1 (x.heap.size + 1 + 1 + 1) tCf (.slice lo l.length lc) w
  b5 : C2 R5 tTy (.string A) (.slice mo m.length mc) w
  below : Below x.heap.size x w
  row : RowX tyE (fun g => CR ≤ g) w (x.heap.size + 4) tTy (.slice lo l.length lc) l
  rels : RowX relE (fun g => g = R5) w CR tRl (.slice mo m.length mc) m
  suf : sj.rest <:+ kt c.L
  more : (m ++ (eachs rel 3 sj).1, (eachs rel 3 sj).2) = r
  len : m.length + sj.rest.length ≤ 10001

set_option maxHeartbeats 16000000 in
set_option maxRecDepth 100000 in
theorem dconfig_any {c : DCtx} {o : Nat} (hU : DPart nodeE c o 22 union) {s : St} {x : World} (h : DEnv c x) (hs : s.rest <:+ kt c.L) :
    Calls Tryd.prog 26 #[stV c o s] x fun e y => ∃ v, e = .returned (.tuple #[stV c o (config s).2, v]) ∧ CfS y x.heap.size (config s).1 v ∧ Below x.heap.size x y := by
  have hcf : eachs typ 2 s = config s := rfl
  generalize config s = res at *
  have HCf := Lib.hid hcf
  clear hcf
  have B0 := Lib.hid (C4.new x tSt (.slice c.ao c.L.length c.cap) (.int .i64 (atN c s : Nat)) (.int .i64 (o : Nat)) (.int .i64 (s.err : Nat)))
  have BL := Lib.hid (show Below x.heap.size x (x.alloc (.cells #[.slice c.ao c.L.length c.cap, .int .i64 (atN c s : Nat), .int .i64 (o : Nat), .int .i64 (s.err : Nat)] tSt)) from (Below.refl _ _).alloc (Nat.le_refl _) _)
  have z1 : (x.alloc (.cells #[.slice c.ao c.L.length c.cap, .int .i64 (atN c s : Nat), .int .i64 (o : Nat), .int .i64 (s.err : Nat)] tSt)).heap.size = x.heap.size + 1 := by simp
  have al : Below (x.alloc (.cells #[.slice c.ao c.L.length c.cap, .int .i64 (atN c s : Nat), .int .i64 (o : Nat), .int .i64 (s.err : Nat)] tSt)).heap.size (x.alloc (.cells #[.slice c.ao c.L.length c.cap, .int .i64 (atN c s : Nat), .int .i64 (o : Nat), .int .i64 (s.err : Nat)] tSt)) ((x.alloc (.cells #[.slice c.ao c.L.length c.cap, .int .i64 (atN c s : Nat), .int .i64 (o : Nat), .int .i64 (s.err : Nat)] tSt)).alloc (.cells #[.slice none 0 0, .int .i64 0, .int .i64 0, .int .i64 0] tSt)) := (Below.refl _ _).alloc (Nat.le_refl _) _
  replace B0 := Lib.hid (B0.out.on al)
  have hn := C4.new (x.alloc (.cells #[.slice c.ao c.L.length c.cap, .int .i64 (atN c s : Nat), .int .i64 (o : Nat), .int .i64 (s.err : Nat)] tSt)) tSt (.slice none 0 0) (.int .i64 0) (.int .i64 0) (.int .i64 0)
  rw [z1] at hn
  have B1 := Lib.hid hn
  have z2 : ((x.alloc (.cells #[.slice c.ao c.L.length c.cap, .int .i64 (atN c s : Nat), .int .i64 (o : Nat), .int .i64 (s.err : Nat)] tSt)).alloc (.cells #[.slice none 0 0, .int .i64 0, .int .i64 0, .int .i64 0] tSt)).heap.size = x.heap.size + 1 + 1 := by simp
  replace BL := Lib.hid (BL.out.trans (al.mono BL.out.size))
  clear al hn
  have al : Below ((x.alloc (.cells #[.slice c.ao c.L.length c.cap, .int .i64 (atN c s : Nat), .int .i64 (o : Nat), .int .i64 (s.err : Nat)] tSt)).alloc (.cells #[.slice none 0 0, .int .i64 0, .int .i64 0, .int .i64 0] tSt)).heap.size ((x.alloc (.cells #[.slice c.ao c.L.length c.cap, .int .i64 (atN c s : Nat), .int .i64 (o : Nat), .int .i64 (s.err : Nat)] tSt)).alloc (.cells #[.slice none 0 0, .int .i64 0, .int .i64 0, .int .i64 0] tSt)) (((x.alloc (.cells #[.slice c.ao c.L.length c.cap, .int .i64 (atN c s : Nat), .int .i64 (o : Nat), .int .i64 (s.err : Nat)] tSt)).alloc (.cells #[.slice none 0 0, .int .i64 0, .int .i64 0, .int .i64 0] tSt)).alloc (.cells #[.slice none 0 0] tCf)) := (Below.refl _ _).alloc (Nat.le_refl _) _
  replace B0 := Lib.hid (B0.out.on al)
  replace B1 := Lib.hid (B1.out.on al)
  have hn := C1.new ((x.alloc (.cells #[.slice c.ao c.L.length c.cap, .int .i64 (atN c s : Nat), .int .i64 (o : Nat), .int .i64 (s.err : Nat)] tSt)).alloc (.cells #[.slice none 0 0, .int .i64 0, .int .i64 0, .int .i64 0] tSt)) tCf (.slice none 0 0)
  rw [z2] at hn
  have B2 := Lib.hid hn
  have z3 : (((x.alloc (.cells #[.slice c.ao c.L.length c.cap, .int .i64 (atN c s : Nat), .int .i64 (o : Nat), .int .i64 (s.err : Nat)] tSt)).alloc (.cells #[.slice none 0 0, .int .i64 0, .int .i64 0, .int .i64 0] tSt)).alloc (.cells #[.slice none 0 0] tCf)).heap.size = x.heap.size + 1 + 1 + 1 := by simp
  replace BL := Lib.hid (BL.out.trans (al.mono BL.out.size))
  clear al hn
  have al : Below (((x.alloc (.cells #[.slice c.ao c.L.length c.cap, .int .i64 (atN c s : Nat), .int .i64 (o : Nat), .int .i64 (s.err : Nat)] tSt)).alloc (.cells #[.slice none 0 0, .int .i64 0, .int .i64 0, .int .i64 0] tSt)).alloc (.cells #[.slice none 0 0] tCf)).heap.size (((x.alloc (.cells #[.slice c.ao c.L.length c.cap, .int .i64 (atN c s : Nat), .int .i64 (o : Nat), .int .i64 (s.err : Nat)] tSt)).alloc (.cells #[.slice none 0 0, .int .i64 0, .int .i64 0, .int .i64 0] tSt)).alloc (.cells #[.slice none 0 0] tCf)) ((((x.alloc (.cells #[.slice c.ao c.L.length c.cap, .int .i64 (atN c s : Nat), .int .i64 (o : Nat), .int .i64 (s.err : Nat)] tSt)).alloc (.cells #[.slice none 0 0, .int .i64 0, .int .i64 0, .int .i64 0] tSt)).alloc (.cells #[.slice none 0 0] tCf)).alloc (.cells #[.slice none 0 0] tCf)) := (Below.refl _ _).alloc (Nat.le_refl _) _
  replace B0 := Lib.hid (B0.out.on al)
  replace B1 := Lib.hid (B1.out.on al)
  replace B2 := Lib.hid (B2.out.on al)
  have hn := C1.new (((x.alloc (.cells #[.slice c.ao c.L.length c.cap, .int .i64 (atN c s : Nat), .int .i64 (o : Nat), .int .i64 (s.err : Nat)] tSt)).alloc (.cells #[.slice none 0 0, .int .i64 0, .int .i64 0, .int .i64 0] tSt)).alloc (.cells #[.slice none 0 0] tCf)) tCf (.slice none 0 0)
  rw [z3] at hn
  have B4 := Lib.hid hn
  have z4 : ((((x.alloc (.cells #[.slice c.ao c.L.length c.cap, .int .i64 (atN c s : Nat), .int .i64 (o : Nat), .int .i64 (s.err : Nat)] tSt)).alloc (.cells #[.slice none 0 0, .int .i64 0, .int .i64 0, .int .i64 0] tSt)).alloc (.cells #[.slice none 0 0] tCf)).alloc (.cells #[.slice none 0 0] tCf)).heap.size = x.heap.size + 1 + 1 + 1 + 1 := by simp
  replace BL := Lib.hid (BL.out.trans (al.mono BL.out.size))
  clear al hn
  clear z1 z2 z3 z4
  obtain ⟨q00, q01, q02, q03⟩ := B0.out.cells
  show Calls _ _ #[.agg #[.slice c.ao c.L.length c.cap, .int .i64 (atN c s : Nat), .int .i64 (o : Nat), .int .i64 (s.err : Nat)]] _ _
  go_enter Tryd.func26, Tryd.ntmps26
  go_wp2_with fail
  generalize ((((x.alloc (.cells #[.slice c.ao c.L.length c.cap, .int .i64 (atN c s : Nat), .int .i64 (o : Nat), .int .i64 (s.err : Nat)] tSt)).alloc (.cells #[.slice none 0 0, .int .i64 0, .int .i64 0, .int .i64 0] tSt)).alloc (.cells #[.slice none 0 0] tCf)).alloc (.cells #[.slice none 0 0] tCf)) = w1 at *
  clear q00 q01 q02 q03
  have H0 : Dc c o x res [] none 0 s w1 :=
    ⟨B0.out, B1.out, B2.out, B4.out, BL.out, RowX.nil _ _ _ _ _, hs, by rw [HCf.out]; simp, by have := dlen hs; have := h.len; simp; omega⟩
  replace H0 := Lib.hid H0
  clear B0 B1 B2 B4 BL HCf
  go_loopg [8] s.rest.length (fun q lv wr => ∃ (l : List Ty) (lo : Option Addr) (lc : Nat) (si : St), q = si.rest.length ∧ Hid (Dc c o x res l lo lc si wr))
  case atStart => exact ⟨[], none, 0, s, rfl, H0⟩
  case round =>
    clear H0
    obtain ⟨l, lo, lc, si, rfl, HA⟩ := hrel
    have B0 := Lib.hid HA.out.b0
    have B1 := Lib.hid HA.out.b1
    have B2 := Lib.hid HA.out.b2
    have B4 := Lib.hid HA.out.b4
    have BL := Lib.hid HA.out.below
    have HR := Lib.hid HA.out.row
    have hsi := HA.out.suf
    have HM := Lib.hid HA.out.more
    have HLe := Lib.hid HA.out.len
    have hl1 : l.length ≤ 10001 := by have := HA.out.len; omega
    have HLT0 := Lib.hid (show ∀ g, (Value.slice lo l.length lc).ownBlock = some g → g < wr.heap.size from fun g hg => (HR.out.own_lt hg).2)
    have hcr : x.heap.size + 4 ≤ wr.heap.size := by have := B4.out.lt; omega
    obtain ⟨CR, hCR⟩ : ∃ CR, CR = wr.heap.size := ⟨_, rfl⟩
    rw [← hCR] at HLT0 hcr
    replace HR := Lib.hid (HR.out.widen (X' := fun g => CR ≤ g) fun g _ hl e => show False by have e2 : CR ≤ g := e; omega)
    have HWr := Lib.hid (Nat.le_of_eq hCR)
    have HCR := Lib.hid hcr
    clear HA hCR hcr
    obtain ⟨q00, q01, q02, q03⟩ := B0.out.cells
    go_wp2_with fail
    clear q00 q01 q02 q03
    have hbw0 := HWr.out
    clear HWr
    have hK := dkind_any (o := o) (s := si) (h.below BL.out) hsi
    refine hK.mono ?_
    rintro e w5 ⟨rfl, hbw⟩
    have HW5 := Lib.hid (show CR ≤ w5.heap.size by have := hbw.size; omega)
    replace B0 := Lib.hid (B0.out.on hbw)
    replace B1 := Lib.hid (B1.out.on hbw)
    replace B2 := Lib.hid (B2.out.on hbw)
    replace B4 := Lib.hid (B4.out.on hbw)
    replace HR := Lib.hid (HR.out.below hbw)
    replace BL := Lib.hid (BL.out.trans (hbw.mono BL.out.size))
    clear hK hbw hbw0
    by_cases h2 : next si = 2
    · have e2 : (next si == 2) = true := by rw [h2]; rfl
      have al : Below w5.heap.size w5 (w5.alloc (.cells #[.string ⟨#[]⟩, .slice none 0 0] tTy)) := (Below.refl _ _).alloc (Nat.le_refl _) _
      have hnew := C2.new w5 tTy (.string ⟨#[]⟩) (.slice none 0 0)
      have HB5 := Lib.hid (show x.heap.size + 4 ≤ w5.heap.size ∧ (True) from by have := B0.out.lt; have := B4.out.lt; simp only [and_true]; omega)
      replace B0 := Lib.hid (B0.out.on al)
      replace B1 := Lib.hid (B1.out.on al)
      replace B2 := Lib.hid (B2.out.on al)
      replace B4 := Lib.hid (B4.out.on al)
      replace HR := Lib.hid (HR.out.below al)
      replace BL := Lib.hid (BL.out.trans (al.mono BL.out.size))
      have B5 := Lib.hid hnew
      clear al hnew
      have hst := stV_tl1 (o := o) hsi (by rw [h2]; decide)
      have hw := at_wrap h si
      have hs_tl : (tl si).rest <:+ kt c.L := (tl_suf si).trans hsi
      obtain ⟨q10, q11, q12, q13⟩ := B0.out.cells
      obtain ⟨f20, f21, f22, f23⟩ := B0.out.free
      have t1 : Turns (fun g => g = x.heap.size) (w5.alloc (.cells #[.string ⟨#[]⟩, .slice none 0 0] tTy)) ((w5.alloc (.cells #[.string ⟨#[]⟩, .slice none 0 0] tTy)).setCell ⟨x.heap.size, 1, none⟩ (.int .i64 ((atN c si : Int) + 1))) := ((Turns.refl (fun g => g = x.heap.size) (w5.alloc (.cells #[.string ⟨#[]⟩, .slice none 0 0] tTy))).setCell (p := ⟨x.heap.size, 1, none⟩) rfl (.int .i64 ((atN c si : Int) + 1)))
      replace B0 := Lib.hid (show C4 x.heap.size tSt (.slice c.ao c.L.length c.cap) (.int .i64 ((atN c si : Int) + 1)) (.int .i64 (o : Nat)) (.int .i64 (si.err : Nat)) ((w5.alloc (.cells #[.string ⟨#[]⟩, .slice none 0 0] tTy)).setCell ⟨x.heap.size, 1, none⟩ (.int .i64 ((atN c si : Int) + 1))) from (Lib.heap_setCell_same (i := 1) B0.out (.int .i64 ((atN c si : Int) + 1))))
      replace B1 := Lib.hid (B1.out.turn t1 (by have := HB5.out; omega))
      replace B2 := Lib.hid (B2.out.turn t1 (by have := HB5.out; omega))
      replace B4 := Lib.hid (B4.out.turn t1 (by have := HB5.out; omega))
      replace B5 := Lib.hid (B5.out.turn t1 (by have := HB5.out; omega))
      replace HR := Lib.hid (HR.out.turn t1 fun g hg _ e => show CR ≤ g by have := HB5.out; omega)
      replace BL := Lib.hid (BL.out.trans (t1.below BL.out.size fun k hk => by have := HB5.out; omega))
      clear t1
      obtain ⟨q30, q31, q32, q33⟩ := B0.out.cells
      go_wp2_with fail
      generalize ((w5.alloc (.cells #[.string ⟨#[]⟩, .slice none 0 0] tTy)).setCell ⟨x.heap.size, 1, none⟩ (.int .i64 ((atN c si : Int) + 1))) = w6 at *
      clear q10 q11 q12 q13 f20 f21 f22 f23 hw q30 q31 q32 q33
      generalize w5.heap.size = R5 at *
      have HCR5 := Lib.hid (show x.heap.size + 4 ≤ CR ∧ CR ≤ R5 from ⟨HCR.out, HW5.out⟩)
      clear HW5
      have hT := dtake_any (o := o) (s := (tl si)) (h.below BL.out) hs_tl 1 (by decide)
      rw [hst] at hT
      refine hT.mono ?_
      rintro e w7 ⟨rfl, hbw⟩
      have hs1 : (need ((tl si)) 1).rest <:+ kt c.L := (need_suf _ 1).trans hs_tl
      replace B0 := Lib.hid (B0.out.on hbw)
      replace B1 := Lib.hid (B1.out.on hbw)
      replace B2 := Lib.hid (B2.out.on hbw)
      replace B4 := Lib.hid (B4.out.on hbw)
      replace B5 := Lib.hid (B5.out.on hbw)
      replace HR := Lib.hid (HR.out.below hbw)
      replace BL := Lib.hid (BL.out.trans (hbw.mono BL.out.size))
      clear hT hbw
      have HTy := Lib.hid (show typ (tl si) = (⟨tk (tl si) 1, (eachs rel 3 (need (need (tl si) 1) 123)).1⟩, need (eachs rel 3 (need (need (tl si) 1) 123)).2 125) by simp only [typ, word_tk])
      generalize tk ((tl si)) 1 = A at *
      generalize need ((tl si)) 1 = s1 at *
      obtain ⟨q40, q41, q42, q43⟩ := B0.out.cells
      obtain ⟨f50, f51, f52, f53⟩ := B0.out.free
      have t1 : Turns (fun g => g = x.heap.size) w7 ((((w7.setCell ⟨x.heap.size, 0, none⟩ (.slice c.ao c.L.length c.cap)).setCell ⟨x.heap.size, 1, none⟩ (.int .i64 (atN c s1 : Nat))).setCell ⟨x.heap.size, 2, none⟩ (.int .i64 (o : Nat))).setCell ⟨x.heap.size, 3, none⟩ (.int .i64 (s1.err : Nat))) := (((((Turns.refl (fun g => g = x.heap.size) w7).setCell (p := ⟨x.heap.size, 0, none⟩) rfl (.slice c.ao c.L.length c.cap)).setCell (p := ⟨x.heap.size, 1, none⟩) rfl (.int .i64 (atN c s1 : Nat))).setCell (p := ⟨x.heap.size, 2, none⟩) rfl (.int .i64 (o : Nat))).setCell (p := ⟨x.heap.size, 3, none⟩) rfl (.int .i64 (s1.err : Nat)))
      replace B0 := Lib.hid (show C4 x.heap.size tSt (.slice c.ao c.L.length c.cap) (.int .i64 (atN c s1 : Nat)) (.int .i64 (o : Nat)) (.int .i64 (s1.err : Nat)) ((((w7.setCell ⟨x.heap.size, 0, none⟩ (.slice c.ao c.L.length c.cap)).setCell ⟨x.heap.size, 1, none⟩ (.int .i64 (atN c s1 : Nat))).setCell ⟨x.heap.size, 2, none⟩ (.int .i64 (o : Nat))).setCell ⟨x.heap.size, 3, none⟩ (.int .i64 (s1.err : Nat))) from (Lib.heap_setCell_same (i := 3) (Lib.heap_setCell_same (i := 2) (Lib.heap_setCell_same (i := 1) (Lib.heap_setCell_same (i := 0) B0.out (.slice c.ao c.L.length c.cap)) (.int .i64 (atN c s1 : Nat))) (.int .i64 (o : Nat))) (.int .i64 (s1.err : Nat))))
      replace B1 := Lib.hid (B1.out.turn t1 (by have := HB5.out; have := HCR5.out; omega))
      replace B2 := Lib.hid (B2.out.turn t1 (by have := HB5.out; have := HCR5.out; omega))
      replace B4 := Lib.hid (B4.out.turn t1 (by have := HB5.out; have := HCR5.out; omega))
      replace B5 := Lib.hid (B5.out.turn t1 (by have := HB5.out; have := HCR5.out; omega))
      replace HR := Lib.hid (HR.out.turn t1 fun g hg _ e => show CR ≤ g by have := HB5.out; have := HCR5.out; omega)
      replace BL := Lib.hid (BL.out.trans (t1.below BL.out.size fun k hk => by have := HB5.out; have := HCR5.out; omega))
      clear t1
      obtain ⟨q60, q61⟩ := B5.out.cells
      obtain ⟨f70, f71⟩ := B5.out.free
      have t1 : Turns (fun g => g = R5) ((((w7.setCell ⟨x.heap.size, 0, none⟩ (.slice c.ao c.L.length c.cap)).setCell ⟨x.heap.size, 1, none⟩ (.int .i64 (atN c s1 : Nat))).setCell ⟨x.heap.size, 2, none⟩ (.int .i64 (o : Nat))).setCell ⟨x.heap.size, 3, none⟩ (.int .i64 (s1.err : Nat))) (((((w7.setCell ⟨x.heap.size, 0, none⟩ (.slice c.ao c.L.length c.cap)).setCell ⟨x.heap.size, 1, none⟩ (.int .i64 (atN c s1 : Nat))).setCell ⟨x.heap.size, 2, none⟩ (.int .i64 (o : Nat))).setCell ⟨x.heap.size, 3, none⟩ (.int .i64 (s1.err : Nat))).setCell ⟨R5, 0, none⟩ (.string A)) := ((Turns.refl (fun g => g = R5) ((((w7.setCell ⟨x.heap.size, 0, none⟩ (.slice c.ao c.L.length c.cap)).setCell ⟨x.heap.size, 1, none⟩ (.int .i64 (atN c s1 : Nat))).setCell ⟨x.heap.size, 2, none⟩ (.int .i64 (o : Nat))).setCell ⟨x.heap.size, 3, none⟩ (.int .i64 (s1.err : Nat)))).setCell (p := ⟨R5, 0, none⟩) rfl (.string A))
      replace B0 := Lib.hid (B0.out.turn t1 (by have := HB5.out; have := HCR5.out; omega))
      replace B1 := Lib.hid (B1.out.turn t1 (by have := HB5.out; have := HCR5.out; omega))
      replace B2 := Lib.hid (B2.out.turn t1 (by have := HB5.out; have := HCR5.out; omega))
      replace B4 := Lib.hid (B4.out.turn t1 (by have := HB5.out; have := HCR5.out; omega))
      replace B5 := Lib.hid (show C2 R5 tTy (.string A) (.slice none 0 0) (((((w7.setCell ⟨x.heap.size, 0, none⟩ (.slice c.ao c.L.length c.cap)).setCell ⟨x.heap.size, 1, none⟩ (.int .i64 (atN c s1 : Nat))).setCell ⟨x.heap.size, 2, none⟩ (.int .i64 (o : Nat))).setCell ⟨x.heap.size, 3, none⟩ (.int .i64 (s1.err : Nat))).setCell ⟨R5, 0, none⟩ (.string A)) from (Lib.heap_setCell_same (i := 0) B5.out (.string A)))
      replace HR := Lib.hid (HR.out.turn t1 fun g hg _ e => show CR ≤ g by have := HB5.out; have := HCR5.out; omega)
      replace BL := Lib.hid (BL.out.trans (t1.below BL.out.size fun k hk => by have := HB5.out; have := HCR5.out; omega))
      clear t1
      obtain ⟨q80, q81, q82, q83⟩ := B0.out.cells
      go_wp2_with fail
      generalize (((((w7.setCell ⟨x.heap.size, 0, none⟩ (.slice c.ao c.L.length c.cap)).setCell ⟨x.heap.size, 1, none⟩ (.int .i64 (atN c s1 : Nat))).setCell ⟨x.heap.size, 2, none⟩ (.int .i64 (o : Nat))).setCell ⟨x.heap.size, 3, none⟩ (.int .i64 (s1.err : Nat))).setCell ⟨R5, 0, none⟩ (.string A)) = w8 at *
      clear q40 q41 q42 q43 f50 f51 f52 f53 q60 q61 f70 f71 q80 q81 q82 q83
      have hT := dtake_any (o := o) (s := s1) (h.below BL.out) hs1 123 (by decide)
      refine hT.mono ?_
      rintro e w9 ⟨rfl, hbw⟩
      have hs2 : (need s1 123).rest <:+ kt c.L := (need_suf _ 123).trans hs1
      replace B0 := Lib.hid (B0.out.on hbw)
      replace B1 := Lib.hid (B1.out.on hbw)
      replace B2 := Lib.hid (B2.out.on hbw)
      replace B4 := Lib.hid (B4.out.on hbw)
      replace B5 := Lib.hid (B5.out.on hbw)
      replace HR := Lib.hid (HR.out.below hbw)
      replace BL := Lib.hid (BL.out.trans (hbw.mono BL.out.size))
      clear hT hbw
      generalize tk s1 123 = A2 at *
      generalize need s1 123 = s2 at *
      obtain ⟨q90, q91, q92, q93⟩ := B0.out.cells
      obtain ⟨f100, f101, f102, f103⟩ := B0.out.free
      have t1 : Turns (fun g => g = x.heap.size) w9 ((((w9.setCell ⟨x.heap.size, 0, none⟩ (.slice c.ao c.L.length c.cap)).setCell ⟨x.heap.size, 1, none⟩ (.int .i64 (atN c s2 : Nat))).setCell ⟨x.heap.size, 2, none⟩ (.int .i64 (o : Nat))).setCell ⟨x.heap.size, 3, none⟩ (.int .i64 (s2.err : Nat))) := (((((Turns.refl (fun g => g = x.heap.size) w9).setCell (p := ⟨x.heap.size, 0, none⟩) rfl (.slice c.ao c.L.length c.cap)).setCell (p := ⟨x.heap.size, 1, none⟩) rfl (.int .i64 (atN c s2 : Nat))).setCell (p := ⟨x.heap.size, 2, none⟩) rfl (.int .i64 (o : Nat))).setCell (p := ⟨x.heap.size, 3, none⟩) rfl (.int .i64 (s2.err : Nat)))
      replace B0 := Lib.hid (show C4 x.heap.size tSt (.slice c.ao c.L.length c.cap) (.int .i64 (atN c s2 : Nat)) (.int .i64 (o : Nat)) (.int .i64 (s2.err : Nat)) ((((w9.setCell ⟨x.heap.size, 0, none⟩ (.slice c.ao c.L.length c.cap)).setCell ⟨x.heap.size, 1, none⟩ (.int .i64 (atN c s2 : Nat))).setCell ⟨x.heap.size, 2, none⟩ (.int .i64 (o : Nat))).setCell ⟨x.heap.size, 3, none⟩ (.int .i64 (s2.err : Nat))) from (Lib.heap_setCell_same (i := 3) (Lib.heap_setCell_same (i := 2) (Lib.heap_setCell_same (i := 1) (Lib.heap_setCell_same (i := 0) B0.out (.slice c.ao c.L.length c.cap)) (.int .i64 (atN c s2 : Nat))) (.int .i64 (o : Nat))) (.int .i64 (s2.err : Nat))))
      replace B1 := Lib.hid (B1.out.turn t1 (by have := HB5.out; have := HCR5.out; omega))
      replace B2 := Lib.hid (B2.out.turn t1 (by have := HB5.out; have := HCR5.out; omega))
      replace B4 := Lib.hid (B4.out.turn t1 (by have := HB5.out; have := HCR5.out; omega))
      replace B5 := Lib.hid (B5.out.turn t1 (by have := HB5.out; have := HCR5.out; omega))
      replace HR := Lib.hid (HR.out.turn t1 fun g hg _ e => show CR ≤ g by have := HB5.out; have := HCR5.out; omega)
      replace BL := Lib.hid (BL.out.trans (t1.below BL.out.size fun k hk => by have := HB5.out; have := HCR5.out; omega))
      clear t1
      go_wp2_with fail
      generalize ((((w9.setCell ⟨x.heap.size, 0, none⟩ (.slice c.ao c.L.length c.cap)).setCell ⟨x.heap.size, 1, none⟩ (.int .i64 (atN c s2 : Nat))).setCell ⟨x.heap.size, 2, none⟩ (.int .i64 (o : Nat))).setCell ⟨x.heap.size, 3, none⟩ (.int .i64 (s2.err : Nat))) = w10 at *
      clear q90 q91 q92 q93 f100 f101 f102 f103
      have HS2 := Lib.hid (show s2.rest.length ≤ 10000 by have := dlen hs2; have := h.len; omega)
      have HE := Lib.hid (show eachs rel 3 s2 = eachs rel 3 s2 from rfl)
      generalize hr : eachs rel 3 s2 = r at *
      clear HE
      have H0 : Di c o x A l lo lc CR R5 r [] none 0 s2 w10 :=
        ⟨B0.out, B1.out, B2.out, B4.out, B5.out, BL.out, HR.out, RowX.nil _ _ _ _ _, hs2, by rw [hr]; simp, by have := HS2.out; simp; omega⟩
      replace H0 := Lib.hid H0
      clear hr B0 B1 B2 B4 B5 BL HR HS2
      go_loopg [30] s2.rest.length (fun q lv wr => ∃ (m : List Rl) (mo : Option Addr) (mc : Nat) (sj : St), q = sj.rest.length ∧ Hid (Di c o x A l lo lc CR R5 r m mo mc sj wr))
      case atStart => exact ⟨[], none, 0, s2, rfl, H0⟩
      case round =>
        clear H0 e2 hs2
        obtain ⟨m, mo, mc, sj, rfl, HA⟩ := hrel
        have B0 := Lib.hid HA.out.b0
        have B1 := Lib.hid HA.out.b1
        have B2 := Lib.hid HA.out.b2
        have B4 := Lib.hid HA.out.b4
        have B5 := Lib.hid HA.out.b5
        have BL := Lib.hid HA.out.below
        have HR := Lib.hid HA.out.row
        have HRl := Lib.hid HA.out.rels
        have hsj := HA.out.suf
        have HMr := Lib.hid HA.out.more
        have HLm := Lib.hid HA.out.len
        have hm1 : m.length ≤ 10001 := by have := HA.out.len; omega
        clear HA
        obtain ⟨q00, q01, q02, q03⟩ := B0.out.cells
        go_wp2_with fail
        clear q00 q01 q02 q03
        have hK := dkind_any (o := o) (s := sj) (h.below BL.out) hsj
        refine hK.mono ?_
        rintro e w11 ⟨rfl, hbw⟩
        replace B0 := Lib.hid (B0.out.on hbw)
        replace B1 := Lib.hid (B1.out.on hbw)
        replace B2 := Lib.hid (B2.out.on hbw)
        replace B4 := Lib.hid (B4.out.on hbw)
        replace B5 := Lib.hid (B5.out.on hbw)
        replace HR := Lib.hid (HR.out.below hbw)
        replace HRl := Lib.hid (HRl.out.below hbw)
        replace BL := Lib.hid (BL.out.trans (hbw.mono BL.out.size))
        clear hK hbw
        by_cases h3 : next sj = 3
        · have e3 : (next sj == 3) = true := by rw [h3]; rfl
          have al : Below w11.heap.size w11 (w11.alloc (.cells #[.string ⟨#[]⟩, .slice none 0 0, .int .i64 0, .string ⟨#[]⟩, .string ⟨#[]⟩, .slice none 0 0] tRl)) := (Below.refl _ _).alloc (Nat.le_refl _) _
          have hnew := C6.new w11 tRl (.string ⟨#[]⟩) (.slice none 0 0) (.int .i64 0) (.string ⟨#[]⟩) (.string ⟨#[]⟩) (.slice none 0 0)
          have HB6 := Lib.hid (show x.heap.size + 4 ≤ w11.heap.size ∧ (R5 < w11.heap.size ∧ True) from by have := B0.out.lt; have := B4.out.lt; have := B5.out.lt; simp only [and_true]; omega)
          replace B0 := Lib.hid (B0.out.on al)
          replace B1 := Lib.hid (B1.out.on al)
          replace B2 := Lib.hid (B2.out.on al)
          replace B4 := Lib.hid (B4.out.on al)
          replace B5 := Lib.hid (B5.out.on al)
          replace HR := Lib.hid (HR.out.below al)
          replace HRl := Lib.hid ((HRl.out.widen (X' := fun g => g = R5 ∨ g = w11.heap.size) fun g _ hl e => show g = R5 by have e2 : g = R5 ∨ g = w11.heap.size := e; omega).below al)
          replace BL := Lib.hid (BL.out.trans (al.mono BL.out.size))
          have B6 := Lib.hid hnew
          clear al hnew
          obtain ⟨q10, q11, q12, q13⟩ := B0.out.cells
          go_wp2_with fail
          generalize (w11.alloc (.cells #[.string ⟨#[]⟩, .slice none 0 0, .int .i64 0, .string ⟨#[]⟩, .string ⟨#[]⟩, .slice none 0 0] tRl)) = w12 at *
          clear q10 q11 q12 q13
          generalize w11.heap.size = R6 at *
          have HC6 := Lib.hid (show x.heap.size + 4 ≤ w12.heap.size ∧ R5 < w12.heap.size ∧ R6 < w12.heap.size from by have h1 := B5.out.lt; have h2 := B6.out.lt; have h3 := HCR5.out; omega)
          have HLTm := Lib.hid (show ∀ g, (Value.slice mo m.length mc).ownBlock = some g → g < w12.heap.size from fun g hg => (HRl.out.own_lt hg).2)
          have hT := drel_any hU (h.below BL.out) hsj
          refine hT.mono ?_
          rintro e w13 ⟨v, rfl, hv, hbw⟩
          have hn3 : need sj 3 = tl sj := if_pos h3
          have hs3 : (rel (need sj 3)).2.rest <:+ kt c.L := (rel_fine.suf _).trans ((need_suf _ _).trans hsj)
          have HSl := Lib.hid (show (rel (need sj 3)).2.rest.length < sj.rest.length by rw [hn3]; have h2 := tl_len (s := sj) (by rw [h3]; decide); have h3 := (rel_fine.suf (tl sj)).length_le; omega)
          have HEa := Lib.hid (show eachs rel 3 sj = ((rel (need sj 3)).1 :: (eachs rel 3 (rel (need sj 3)).2).1, (eachs rel 3 (rel (need sj 3)).2).2) by rw [hn3]; exact eachs_on rel_fine (by decide) h3)
          have hv' : RelS (fun g => w12.heap.size ≤ g) w13 (rel (need sj 3)).1 v := hv
          replace B0 := Lib.hid (B0.out.on hbw)
          replace B1 := Lib.hid (B1.out.on hbw)
          replace B2 := Lib.hid (B2.out.on hbw)
          replace B4 := Lib.hid (B4.out.on hbw)
          replace B5 := Lib.hid (B5.out.on hbw)
          replace B6 := Lib.hid (B6.out.on hbw)
          replace HR := Lib.hid (HR.out.below hbw)
          replace HRl := Lib.hid (HRl.out.below hbw)
          replace BL := Lib.hid (BL.out.trans (hbw.mono BL.out.size))
          clear hT hbw hv hn3
          generalize (rel (need sj 3)).2 = s3 at *
          generalize (rel (need sj 3)).1 = rr at *
          obtain ⟨ao, ac, no, nc, Ba, rfl, -⟩ := id hv'
          have HV := Lib.hid hv'
          clear hv'
          obtain ⟨q20, q21, q22, q23⟩ := B0.out.cells
          obtain ⟨f30, f31, f32, f33⟩ := B0.out.free
          have t1 : Turns (fun g => g = x.heap.size) w13 ((((w13.setCell ⟨x.heap.size, 0, none⟩ (.slice c.ao c.L.length c.cap)).setCell ⟨x.heap.size, 1, none⟩ (.int .i64 (atN c s3 : Nat))).setCell ⟨x.heap.size, 2, none⟩ (.int .i64 (o : Nat))).setCell ⟨x.heap.size, 3, none⟩ (.int .i64 (s3.err : Nat))) := (((((Turns.refl (fun g => g = x.heap.size) w13).setCell (p := ⟨x.heap.size, 0, none⟩) rfl (.slice c.ao c.L.length c.cap)).setCell (p := ⟨x.heap.size, 1, none⟩) rfl (.int .i64 (atN c s3 : Nat))).setCell (p := ⟨x.heap.size, 2, none⟩) rfl (.int .i64 (o : Nat))).setCell (p := ⟨x.heap.size, 3, none⟩) rfl (.int .i64 (s3.err : Nat)))
          replace B0 := Lib.hid (show C4 x.heap.size tSt (.slice c.ao c.L.length c.cap) (.int .i64 (atN c s3 : Nat)) (.int .i64 (o : Nat)) (.int .i64 (s3.err : Nat)) ((((w13.setCell ⟨x.heap.size, 0, none⟩ (.slice c.ao c.L.length c.cap)).setCell ⟨x.heap.size, 1, none⟩ (.int .i64 (atN c s3 : Nat))).setCell ⟨x.heap.size, 2, none⟩ (.int .i64 (o : Nat))).setCell ⟨x.heap.size, 3, none⟩ (.int .i64 (s3.err : Nat))) from (Lib.heap_setCell_same (i := 3) (Lib.heap_setCell_same (i := 2) (Lib.heap_setCell_same (i := 1) (Lib.heap_setCell_same (i := 0) B0.out (.slice c.ao c.L.length c.cap)) (.int .i64 (atN c s3 : Nat))) (.int .i64 (o : Nat))) (.int .i64 (s3.err : Nat))))
          replace B1 := Lib.hid (B1.out.turn t1 (by have := HB5.out; have := HB6.out; have := HCR5.out; have := HC6.out; omega))
          replace B2 := Lib.hid (B2.out.turn t1 (by have := HB5.out; have := HB6.out; have := HCR5.out; have := HC6.out; omega))
          replace B4 := Lib.hid (B4.out.turn t1 (by have := HB5.out; have := HB6.out; have := HCR5.out; have := HC6.out; omega))
          replace B5 := Lib.hid (B5.out.turn t1 (by have := HB5.out; have := HB6.out; have := HCR5.out; have := HC6.out; omega))
          replace B6 := Lib.hid (B6.out.turn t1 (by have := HB5.out; have := HB6.out; have := HCR5.out; have := HC6.out; omega))
          replace HR := Lib.hid (HR.out.turn t1 fun g hg _ e => show CR ≤ g by have := HB5.out; have := HB6.out; have := HCR5.out; have := HC6.out; omega)
          replace HRl := Lib.hid (HRl.out.turn t1 fun g hg _ e => show g = R5 ∨ g = R6 by have := HB5.out; have := HB6.out; have := HCR5.out; have := HC6.out; omega)
          replace HV := Lib.hid (relE.turn HV.out t1 (fun g hg _ e => by have := HB5.out; have := HB6.out; have := HCR5.out; have := HC6.out; omega) fun g hg _ => hg)
          replace BL := Lib.hid (BL.out.trans (t1.below BL.out.size fun k hk => by have := HB5.out; have := HB6.out; have := HCR5.out; have := HC6.out; omega))
          clear t1
          obtain ⟨q40, q41, q42, q43, q44, q45⟩ := B6.out.cells
          obtain ⟨f50, f51, f52, f53, f54, f55⟩ := B6.out.free
          have t1 : Turns (fun g => g = R6) ((((w13.setCell ⟨x.heap.size, 0, none⟩ (.slice c.ao c.L.length c.cap)).setCell ⟨x.heap.size, 1, none⟩ (.int .i64 (atN c s3 : Nat))).setCell ⟨x.heap.size, 2, none⟩ (.int .i64 (o : Nat))).setCell ⟨x.heap.size, 3, none⟩ (.int .i64 (s3.err : Nat))) ((((((((((w13.setCell ⟨x.heap.size, 0, none⟩ (.slice c.ao c.L.length c.cap)).setCell ⟨x.heap.size, 1, none⟩ (.int .i64 (atN c s3 : Nat))).setCell ⟨x.heap.size, 2, none⟩ (.int .i64 (o : Nat))).setCell ⟨x.heap.size, 3, none⟩ (.int .i64 (s3.err : Nat))).setCell ⟨R6, 0, none⟩ (.string rr.name)).setCell ⟨R6, 1, none⟩ (.slice ao rr.allow.length ac)).setCell ⟨R6, 2, none⟩ (.int .i64 rr.expr.kind)).setCell ⟨R6, 3, none⟩ (.string rr.expr.ta)).setCell ⟨R6, 4, none⟩ (.string rr.expr.tb)).setCell ⟨R6, 5, none⟩ (.slice no rr.expr.kids.length nc)) := (((((((Turns.refl (fun g => g = R6) ((((w13.setCell ⟨x.heap.size, 0, none⟩ (.slice c.ao c.L.length c.cap)).setCell ⟨x.heap.size, 1, none⟩ (.int .i64 (atN c s3 : Nat))).setCell ⟨x.heap.size, 2, none⟩ (.int .i64 (o : Nat))).setCell ⟨x.heap.size, 3, none⟩ (.int .i64 (s3.err : Nat)))).setCell (p := ⟨R6, 0, none⟩) rfl (.string rr.name)).setCell (p := ⟨R6, 1, none⟩) rfl (.slice ao rr.allow.length ac)).setCell (p := ⟨R6, 2, none⟩) rfl (.int .i64 rr.expr.kind)).setCell (p := ⟨R6, 3, none⟩) rfl (.string rr.expr.ta)).setCell (p := ⟨R6, 4, none⟩) rfl (.string rr.expr.tb)).setCell (p := ⟨R6, 5, none⟩) rfl (.slice no rr.expr.kids.length nc))
          replace B0 := Lib.hid (B0.out.turn t1 (by have := HB5.out; have := HB6.out; have := HCR5.out; have := HC6.out; omega))
          replace B1 := Lib.hid (B1.out.turn t1 (by have := HB5.out; have := HB6.out; have := HCR5.out; have := HC6.out; omega))
          replace B2 := Lib.hid (B2.out.turn t1 (by have := HB5.out; have := HB6.out; have := HCR5.out; have := HC6.out; omega))
          replace B4 := Lib.hid (B4.out.turn t1 (by have := HB5.out; have := HB6.out; have := HCR5.out; have := HC6.out; omega))
          replace B5 := Lib.hid (B5.out.turn t1 (by have := HB5.out; have := HB6.out; have := HCR5.out; have := HC6.out; omega))
          replace B6 := Lib.hid (show C6 R6 tRl (.string rr.name) (.slice ao rr.allow.length ac) (.int .i64 rr.expr.kind) (.string rr.expr.ta) (.string rr.expr.tb) (.slice no rr.expr.kids.length nc) ((((((((((w13.setCell ⟨x.heap.size, 0, none⟩ (.slice c.ao c.L.length c.cap)).setCell ⟨x.heap.size, 1, none⟩ (.int .i64 (atN c s3 : Nat))).setCell ⟨x.heap.size, 2, none⟩ (.int .i64 (o : Nat))).setCell ⟨x.heap.size, 3, none⟩ (.int .i64 (s3.err : Nat))).setCell ⟨R6, 0, none⟩ (.string rr.name)).setCell ⟨R6, 1, none⟩ (.slice ao rr.allow.length ac)).setCell ⟨R6, 2, none⟩ (.int .i64 rr.expr.kind)).setCell ⟨R6, 3, none⟩ (.string rr.expr.ta)).setCell ⟨R6, 4, none⟩ (.string rr.expr.tb)).setCell ⟨R6, 5, none⟩ (.slice no rr.expr.kids.length nc)) from (Lib.heap_setCell_same (i := 5) (Lib.heap_setCell_same (i := 4) (Lib.heap_setCell_same (i := 3) (Lib.heap_setCell_same (i := 2) (Lib.heap_setCell_same (i := 1) (Lib.heap_setCell_same (i := 0) B6.out (.string rr.name)) (.slice ao rr.allow.length ac)) (.int .i64 rr.expr.kind)) (.string rr.expr.ta)) (.string rr.expr.tb)) (.slice no rr.expr.kids.length nc)))
          replace HR := Lib.hid (HR.out.turn t1 fun g hg _ e => show CR ≤ g by have := HB5.out; have := HB6.out; have := HCR5.out; have := HC6.out; omega)
          replace HRl := Lib.hid (HRl.out.turn t1 fun g hg _ e => show g = R5 ∨ g = R6 by have := HB5.out; have := HB6.out; have := HCR5.out; have := HC6.out; omega)
          replace HV := Lib.hid (relE.turn HV.out t1 (fun g hg _ e => by have := HB5.out; have := HB6.out; have := HCR5.out; have := HC6.out; omega) fun g hg _ => hg)
          replace BL := Lib.hid (BL.out.trans (t1.below BL.out.size fun k hk => by have := HB5.out; have := HB6.out; have := HCR5.out; have := HC6.out; omega))
          clear t1
          obtain ⟨q60, q61⟩ := B5.out.cells
          obtain ⟨q70, q71, q72, q73, q74, q75⟩ := B6.out.cells
          go_upto_region 10 with fail
          generalize ((((((((((w13.setCell ⟨x.heap.size, 0, none⟩ (.slice c.ao c.L.length c.cap)).setCell ⟨x.heap.size, 1, none⟩ (.int .i64 (atN c s3 : Nat))).setCell ⟨x.heap.size, 2, none⟩ (.int .i64 (o : Nat))).setCell ⟨x.heap.size, 3, none⟩ (.int .i64 (s3.err : Nat))).setCell ⟨R6, 0, none⟩ (.string rr.name)).setCell ⟨R6, 1, none⟩ (.slice ao rr.allow.length ac)).setCell ⟨R6, 2, none⟩ (.int .i64 rr.expr.kind)).setCell ⟨R6, 3, none⟩ (.string rr.expr.ta)).setCell ⟨R6, 4, none⟩ (.string rr.expr.tb)).setCell ⟨R6, 5, none⟩ (.slice no rr.expr.kids.length nc)) = w14 at *
          clear q20 q21 q22 q23 f30 f31 f32 f33 q40 q41 q42 q43 q44 q45 f50 f51 f52 f53 f54 f55
          have hCRw : CR ≤ w12.heap.size := by have h1 := HCR5.out; have h2 := HC6.out; omega
          have HCRw := Lib.hid hCRw
          clear hCRw
          have al2 : Below w14.heap.size w14 (w14.alloc (.cells #[.string rr.name, .slice ao rr.allow.length ac, .int .i64 rr.expr.kind, .string rr.expr.ta, .string rr.expr.tb, .slice no rr.expr.kids.length nc] tRl)) := (Below.refl _ _).alloc (Nat.le_refl _) _
          replace B0 := Lib.hid (B0.out.on al2)
          replace B1 := Lib.hid (B1.out.on al2)
          replace B2 := Lib.hid (B2.out.on al2)
          replace B4 := Lib.hid (B4.out.on al2)
          replace B5 := Lib.hid (B5.out.on al2)
          replace B6 := Lib.hid (B6.out.on al2)
          replace HR := Lib.hid (HR.out.below al2)
          replace HRl := Lib.hid (HRl.out.below al2)
          replace HV := Lib.hid (Elt.below (E := relE) HV.out al2)
          replace BL := Lib.hid (BL.out.trans (al2.mono BL.out.size))
          have hnew : ((w14.alloc (.cells #[.string rr.name, .slice ao rr.allow.length ac, .int .i64 rr.expr.kind, .string rr.expr.ta, .string rr.expr.tb, .slice no rr.expr.kids.length nc] tRl))).heap[w14.heap.size]? = some (.cells (relV rr (.slice ao rr.allow.length ac) (.slice no rr.expr.kids.length nc)).cells tRl (0, 0)) := heap_alloc_new w14 _
          have HNew := Lib.hid hnew
          have HW := Lib.hid (show CR ≤ ((w14.alloc (.cells #[.string rr.name, .slice ao rr.allow.length ac, .int .i64 rr.expr.kind, .string rr.expr.ta, .string rr.expr.tb, .slice no rr.expr.kids.length nc] tRl))).heap.size by have := B4.out.lt; have := B5.out.lt; have := HCR5.out; omega)
          have HXn := Lib.hid (show ∀ g, ((w14.alloc (.cells #[.string rr.name, .slice ao rr.allow.length ac, .int .i64 rr.expr.kind, .string rr.expr.ta, .string rr.expr.tb, .slice no rr.expr.kids.length nc] tRl))).heap.size ≤ g → ¬ (g = R5 ∨ g = R6) from fun g hg e => by have h1 := B5.out.lt; have h2 := B6.out.lt; omega)
          clear al2 hnew
          obtain ⟨ti, tz, tb, TE, hTb⟩ := elR
          have HO := Lib.hid (And.intro TE hTb)
          clear TE hTb
          go_wp2_with (at_builtin; refine walk_add (E := relE) (v := .slice mo m.length mc) (X := fun g => g = R5 ∨ g = R6) (C := w12.heap.size) (u := relV rr (.slice ao rr.allow.length ac) (.slice no rr.expr.kids.length nc)) (a := rr) HO.out.1 HO.out.2 rfl _ _ rfl rfl rfl HRl.out HNew.out (Elt.mono (E := relE) HV.out fun g hg _ => ⟨hg, fun e => by have := HC6.out; omega⟩) HCRw.out HLTm.out HW.out HXn.out (by omega) ?_)
          intro va y HR2 ht
          have hX : ∀ g, (Value.slice mo m.length mc).ownBlock = some g → x.heap.size + 4 ≤ g ∧ CR ≤ g ∧ g ≠ R5 ∧ g ≠ R6 := fun g hg => by have h1 := (HRl.out.own_lt hg).1; have h2 : ¬ (g = R5 ∨ g = R6) := HRl.out.1 g hg; have h3 := HCR5.out; omega
          have hdis : ∀ g, (Value.slice lo l.length lc).ownBlock = some g → g < CR := HLT0.out
          replace B0 := Lib.hid (B0.out.turn ht fun e => by have := hX _ e; omega)
          replace B1 := Lib.hid (B1.out.turn ht fun e => by have := hX _ e; omega)
          replace B2 := Lib.hid (B2.out.turn ht fun e => by have := hX _ e; omega)
          replace B4 := Lib.hid (B4.out.turn ht fun e => by have := hX _ e; omega)
          replace B5 := Lib.hid (B5.out.turn ht fun e => by have := hX _ e; omega)
          replace B6 := Lib.hid (B6.out.turn ht fun e => by have := hX _ e; omega)
          replace BL := Lib.hid (BL.out.trans (ht.below BL.out.size fun k hk => by have := hX _ hk; omega))
          replace HR := Lib.hid (HR.out.turn ht fun g _ _ e => show CR ≤ g from (hX g e).2.1)
          generalize hm2 : m ++ [rr] = m2 at *
          obtain ⟨mo2, mc2, rfl⟩ := HR2.slice
          replace HRl := Lib.hid HR2
          clear q60 q61 q70 q71 q72 q73 q74 q75
          clear HR2 ht hX hdis HO HNew HXn HW HLTm HV HC6 HCRw
          obtain ⟨q80, q81⟩ := B5.out.cells
          obtain ⟨f90, f91⟩ := B5.out.free
          have t1 : Turns (fun g => g = R5) y (y.setCell ⟨R5, 1, none⟩ (.slice mo2 m2.length mc2)) := ((Turns.refl (fun g => g = R5) y).setCell (p := ⟨R5, 1, none⟩) rfl (.slice mo2 m2.length mc2))
          replace B0 := Lib.hid (B0.out.turn t1 (by have := HB5.out; have := HB6.out; have := HCR5.out; omega))
          replace B1 := Lib.hid (B1.out.turn t1 (by have := HB5.out; have := HB6.out; have := HCR5.out; omega))
          replace B2 := Lib.hid (B2.out.turn t1 (by have := HB5.out; have := HB6.out; have := HCR5.out; omega))
          replace B4 := Lib.hid (B4.out.turn t1 (by have := HB5.out; have := HB6.out; have := HCR5.out; omega))
          replace B5 := Lib.hid (show C2 R5 tTy (.string A) (.slice mo2 m2.length mc2) (y.setCell ⟨R5, 1, none⟩ (.slice mo2 m2.length mc2)) from (Lib.heap_setCell_same (i := 1) B5.out (.slice mo2 m2.length mc2)))
          replace B6 := Lib.hid (B6.out.turn t1 (by have := HB5.out; have := HB6.out; have := HCR5.out; omega))
          replace HR := Lib.hid (HR.out.turn t1 fun g hg _ e => show CR ≤ g by have := HB5.out; have := HB6.out; have := HCR5.out; omega)
          replace HRl := Lib.hid (HRl.out.turn t1 fun g hg _ e => show g = R5 ∨ g = R6 by have := HB5.out; have := HB6.out; have := HCR5.out; omega)
          replace BL := Lib.hid (BL.out.trans (t1.below BL.out.size fun k hk => by have := HB5.out; have := HB6.out; have := HCR5.out; omega))
          clear t1
          go_wp2_with fail
          generalize (y.setCell ⟨R5, 1, none⟩ (.slice mo2 m2.length mc2)) = w15 at *
          clear q80 q81 f90 f91
          have hA : Di c o x A l lo lc CR R5 r m2 mo2 mc2 s3 w15 := by
            refine ⟨B0.out, B1.out, B2.out, B4.out, B5.out, BL.out, HR.out, HRl.out.widen fun g _ _ e => .inl e, hs3, ?_, ?_⟩
            · rw [← HMr.out, HEa.out, ← hm2]
              simp
            · rw [← hm2, List.length_append, List.length_singleton]
              have := HLm.out
              have := HSl.out
              omega
          replace hA := Lib.hid hA
          have hdec := HSl.out
          clear B0 B1 B2 B4 B5 B6 BL HR HRl HMr HEa HSl HLm HB6
          go_roundg (s3.rest.length)
          case rel => exact ⟨_, _, _, _, rfl, hA⟩
          case measure => exact hdec
        · have e3 : (next sj == 3) = false := by simpa using h3
          have hmr : (m, sj) = r := by rw [← HMr.out, eachs_off h3]; simp
          subst hmr
          clear HMr
          obtain ⟨q10, q11, q12, q13⟩ := B0.out.cells
          go_wp2_with fail
          clear q10 q11 q12 q13
          have hT := dtake_any (o := o) (s := sj) (h.below BL.out) hsj 125 (by decide)
          refine hT.mono ?_
          rintro e w12 ⟨rfl, hbw⟩
          have hs4 : (need sj 125).rest <:+ kt c.L := (need_suf _ 125).trans hsj
          replace B0 := Lib.hid (B0.out.on hbw)
          replace B1 := Lib.hid (B1.out.on hbw)
          replace B2 := Lib.hid (B2.out.on hbw)
          replace B4 := Lib.hid (B4.out.on hbw)
          replace B5 := Lib.hid (B5.out.on hbw)
          replace HR := Lib.hid (HR.out.below hbw)
          replace HRl := Lib.hid (HRl.out.below hbw)
          replace BL := Lib.hid (BL.out.trans (hbw.mono BL.out.size))
          clear hT hbw
          generalize tk sj 125 = A3 at *
          generalize need sj 125 = s4 at *
          have HEt := Lib.hid (show eachs typ 2 si = (⟨A, m⟩ :: (eachs typ 2 s4).1, (eachs typ 2 s4).2) by rw [eachs_on typ_fine (by decide) h2, HTy.out])
          have HSt := Lib.hid (show s4.rest.length < si.rest.length by
            have h5 := tl_len (s := si) (by rw [h2]; decide)
            have h6 := (typ_fine.suf (tl si)).length_le
            rw [HTy.out] at h6
            simp only at h6
            omega)
          clear HTy
          obtain ⟨q20, q21, q22, q23⟩ := B0.out.cells
          obtain ⟨f30, f31, f32, f33⟩ := B0.out.free
          have t1 : Turns (fun g => g = x.heap.size) w12 ((((w12.setCell ⟨x.heap.size, 0, none⟩ (.slice c.ao c.L.length c.cap)).setCell ⟨x.heap.size, 1, none⟩ (.int .i64 (atN c s4 : Nat))).setCell ⟨x.heap.size, 2, none⟩ (.int .i64 (o : Nat))).setCell ⟨x.heap.size, 3, none⟩ (.int .i64 (s4.err : Nat))) := (((((Turns.refl (fun g => g = x.heap.size) w12).setCell (p := ⟨x.heap.size, 0, none⟩) rfl (.slice c.ao c.L.length c.cap)).setCell (p := ⟨x.heap.size, 1, none⟩) rfl (.int .i64 (atN c s4 : Nat))).setCell (p := ⟨x.heap.size, 2, none⟩) rfl (.int .i64 (o : Nat))).setCell (p := ⟨x.heap.size, 3, none⟩) rfl (.int .i64 (s4.err : Nat)))
          replace B0 := Lib.hid (show C4 x.heap.size tSt (.slice c.ao c.L.length c.cap) (.int .i64 (atN c s4 : Nat)) (.int .i64 (o : Nat)) (.int .i64 (s4.err : Nat)) ((((w12.setCell ⟨x.heap.size, 0, none⟩ (.slice c.ao c.L.length c.cap)).setCell ⟨x.heap.size, 1, none⟩ (.int .i64 (atN c s4 : Nat))).setCell ⟨x.heap.size, 2, none⟩ (.int .i64 (o : Nat))).setCell ⟨x.heap.size, 3, none⟩ (.int .i64 (s4.err : Nat))) from (Lib.heap_setCell_same (i := 3) (Lib.heap_setCell_same (i := 2) (Lib.heap_setCell_same (i := 1) (Lib.heap_setCell_same (i := 0) B0.out (.slice c.ao c.L.length c.cap)) (.int .i64 (atN c s4 : Nat))) (.int .i64 (o : Nat))) (.int .i64 (s4.err : Nat))))
          replace B1 := Lib.hid (B1.out.turn t1 (by have := HB5.out; have := HCR5.out; omega))
          replace B2 := Lib.hid (B2.out.turn t1 (by have := HB5.out; have := HCR5.out; omega))
          replace B4 := Lib.hid (B4.out.turn t1 (by have := HB5.out; have := HCR5.out; omega))
          replace B5 := Lib.hid (B5.out.turn t1 (by have := HB5.out; have := HCR5.out; omega))
          replace HR := Lib.hid (HR.out.turn t1 fun g hg _ e => show CR ≤ g by have := HB5.out; have := HCR5.out; omega)
          replace HRl := Lib.hid (HRl.out.turn t1 fun g hg _ e => show g = R5 by have := HB5.out; have := HCR5.out; omega)
          replace BL := Lib.hid (BL.out.trans (t1.below BL.out.size fun k hk => by have := HB5.out; have := HCR5.out; omega))
          clear t1
          obtain q40 := B4.out.cells
          obtain ⟨q50, q51⟩ := B5.out.cells
          go_upto_region 12 with fail
          generalize ((((w12.setCell ⟨x.heap.size, 0, none⟩ (.slice c.ao c.L.length c.cap)).setCell ⟨x.heap.size, 1, none⟩ (.int .i64 (atN c s4 : Nat))).setCell ⟨x.heap.size, 2, none⟩ (.int .i64 (o : Nat))).setCell ⟨x.heap.size, 3, none⟩ (.int .i64 (s4.err : Nat))) = w13 at *
          clear q20 q21 q22 q23 f30 f31 f32 f33
          replace HR := Lib.hid (HR.out.widen (X' := fun g => g = R5) fun g _ _ e => show CR ≤ g by have e2 : g = R5 := e; have := HCR5.out; omega)
          have al2 : Below w13.heap.size w13 (w13.alloc (.cells #[.string A, .slice mo m.length mc] tTy)) := (Below.refl _ _).alloc (Nat.le_refl _) _
          replace B0 := Lib.hid (B0.out.on al2)
          replace B1 := Lib.hid (B1.out.on al2)
          replace B2 := Lib.hid (B2.out.on al2)
          replace B4 := Lib.hid (B4.out.on al2)
          replace B5 := Lib.hid (B5.out.on al2)
          replace HR := Lib.hid (HR.out.below al2)
          replace HRl := Lib.hid (HRl.out.below al2)
          replace BL := Lib.hid (BL.out.trans (al2.mono BL.out.size))
          have hnew : ((w13.alloc (.cells #[.string A, .slice mo m.length mc] tTy))).heap[w13.heap.size]? = some (.cells (Value.agg #[.string A, .slice mo m.length mc]).cells tTy (0, 0)) := heap_alloc_new w13 _
          have HNew := Lib.hid hnew
          have HW := Lib.hid (show x.heap.size + 4 ≤ ((w13.alloc (.cells #[.string A, .slice mo m.length mc] tTy))).heap.size by have := B4.out.lt; have := B5.out.lt; have := HCR5.out; omega)
          have HXn := Lib.hid (show ∀ g, ((w13.alloc (.cells #[.string A, .slice mo m.length mc] tTy))).heap.size ≤ g → ¬ (g = R5) from fun g hg e => by have h1 := B5.out.lt; omega)
          clear al2 hnew
          obtain ⟨ti, tz, tb, TE, hTb⟩ := elT
          have HO := Lib.hid (And.intro TE hTb)
          clear TE hTb
          go_wp2_with (at_builtin; refine walk_add (E := tyE) (v := .slice lo l.length lc) (X := fun g => g = R5) (C := CR) (u := Value.agg #[.string A, .slice mo m.length mc]) (a := (⟨A, m⟩ : Ty)) HO.out.1 HO.out.2 rfl _ _ rfl rfl rfl HR.out HNew.out (HRl.out.ty) HCR.out HLT0.out HW.out HXn.out (by omega) ?_)
          intro va y HR2 ht
          have hX : ∀ g, (Value.slice lo l.length lc).ownBlock = some g → x.heap.size + 4 ≤ g ∧ g ≠ R5 := fun g hg => ⟨(HR.out.own_lt hg).1, HR.out.1 g hg⟩
          replace B0 := Lib.hid (B0.out.turn ht fun e => by have := hX _ e; omega)
          replace B1 := Lib.hid (B1.out.turn ht fun e => by have := hX _ e; omega)
          replace B2 := Lib.hid (B2.out.turn ht fun e => by have := hX _ e; omega)
          replace B4 := Lib.hid (B4.out.turn ht fun e => by have := hX _ e; omega)
          replace B5 := Lib.hid (B5.out.turn ht fun e => by have := hX _ e; omega)
          replace BL := Lib.hid (BL.out.trans (ht.below BL.out.size fun k hk => by have := hX _ hk; omega))
          generalize hl2 : l ++ [(⟨A, m⟩ : Ty)] = l2 at *
          obtain ⟨lo2, lc2, rfl⟩ := HR2.slice
          replace HR := Lib.hid HR2
          clear q40 q50 q51
          clear HR2 ht hX HO HNew HXn HW HRl
          obtain q60 := B4.out.cells
          obtain f70 := B4.out.free
          have t1 : Turns (fun g => g = x.heap.size + 1 + 1 + 1) y (y.setCell ⟨x.heap.size + 1 + 1 + 1, 0, none⟩ (.slice lo2 l2.length lc2)) := ((Turns.refl (fun g => g = x.heap.size + 1 + 1 + 1) y).setCell (p := ⟨x.heap.size + 1 + 1 + 1, 0, none⟩) rfl (.slice lo2 l2.length lc2))
          replace B0 := Lib.hid (B0.out.turn t1 (by have := HB5.out; have := HCR5.out; omega))
          replace B1 := Lib.hid (B1.out.turn t1 (by have := HB5.out; have := HCR5.out; omega))
          replace B2 := Lib.hid (B2.out.turn t1 (by have := HB5.out; have := HCR5.out; omega))
          replace B4 := Lib.hid (show C1 (x.heap.size + 1 + 1 + 1) tCf (.slice lo2 l2.length lc2) (y.setCell ⟨x.heap.size + 1 + 1 + 1, 0, none⟩ (.slice lo2 l2.length lc2)) from (Lib.heap_setCell_same (i := 0) B4.out (.slice lo2 l2.length lc2)))
          replace B5 := Lib.hid (B5.out.turn t1 (by have := HB5.out; have := HCR5.out; omega))
          replace HR := Lib.hid (HR.out.turn t1 fun g hg _ e => show g = R5 by have := HB5.out; have := HCR5.out; omega)
          replace BL := Lib.hid (BL.out.trans (t1.below BL.out.size fun k hk => by have := HB5.out; have := HCR5.out; omega))
          clear t1
          go_wp2_with fail
          generalize (y.setCell ⟨x.heap.size + 1 + 1 + 1, 0, none⟩ (.slice lo2 l2.length lc2)) = w14 at *
          clear q60 f70
          have hA : Dc c o x res l2 lo2 lc2 s4 w14 := by
            refine ⟨B0.out, B1.out, B2.out, B4.out, BL.out, HR.out.widen fun _ _ _ hf => hf.elim, hs4, ?_, ?_⟩
            · rw [← HM.out, HEt.out, ← hl2]
              simp
            · rw [← hl2, List.length_append, List.length_singleton]
              have := HLe.out
              have := HSt.out
              omega
          replace hA := Lib.hid hA
          have hdec := HSt.out
          clear B0 B1 B2 B4 B5 BL HR HM HEt HSt HLe
          go_roundg (s4.rest.length)
          case rel => exact ⟨_, _, _, _, rfl, hA⟩
          case measure => exact hdec
    · have e2 : (next si == 2) = false := by simpa using h2
      have HQ := Lib.hid (show res = (l, si) by rw [← HM.out, eachs_off h2]; simp)
      clear HM HLT0 HCR HW5
      go_wp2_with fail
      replace B0 := Lib.hid (B0.out.on (Below.refl _ _).drew)
      replace B1 := Lib.hid (B1.out.on (Below.refl _ _).drew)
      replace B2 := Lib.hid (B2.out.on (Below.refl _ _).drew)
      replace B4 := Lib.hid (B4.out.on (Below.refl _ _).drew)
      replace HR := Lib.hid (HR.out.below (Below.refl _ _).drew)
      replace BL := Lib.hid (BL.out.trans (((Below.refl w5.heap.size w5).drew).mono BL.out.size))
      refine Order.region_begin (S := Turns (Two x) w5.drew) (by kernel_rfl) ?_
      generalize w5.drew = w9 at *
      have HX := Lib.hid (show ∀ z, Turns (Two x) w9 z → _ from fun z hz => And.intro (B0.out.turn hz (by omega)).cells (B4.out.turn hz (by omega)).cells)
      refine Order.reads_any (idx := [0, 1]) (by kernel_rfl) (Turns.refl _ _) (fun _ _ _ _ _ h => Order.noPanic_put h) 2 _ _ (by decide +kernel) ?_
      simp only [Order.pick, List.getElem?_toArray, List.getElem?_cons_zero, List.getElem?_cons_succ]
      repeat (first
        | (refine Order.reads_off (by rfl) ?_
           simp only [Act.put, List.setIfInBounds_toArray, List.set_cons_zero, List.set_cons_succ])
        | (apply Order.reads_on
           · rfl
           · intro x hx
             first
               | (go_simp; rfl)
               | (obtain ⟨⟨i0, i1, i2, i3⟩, i4⟩ := HX.out x hx
                  go_simp; rfl)
           simp only [Act.put, List.setIfInBounds_toArray, List.set_cons_zero, List.set_cons_succ]))
      refine Order.reads_end ?_
      clear HX
      obtain ⟨q10, q11, q12, q13⟩ := B1.out.cells
      obtain ⟨f20, f21, f22, f23⟩ := B1.out.free
      have t1 : Turns (fun g => g = x.heap.size + 1) w9 ((((w9.setCell ⟨x.heap.size + 1, 0, none⟩ (.slice c.ao c.L.length c.cap)).setCell ⟨x.heap.size + 1, 1, none⟩ (.int .i64 (atN c si : Nat))).setCell ⟨x.heap.size + 1, 2, none⟩ (.int .i64 (o : Nat))).setCell ⟨x.heap.size + 1, 3, none⟩ (.int .i64 (si.err : Nat))) := (((((Turns.refl (fun g => g = x.heap.size + 1) w9).setCell (p := ⟨x.heap.size + 1, 0, none⟩) rfl (.slice c.ao c.L.length c.cap)).setCell (p := ⟨x.heap.size + 1, 1, none⟩) rfl (.int .i64 (atN c si : Nat))).setCell (p := ⟨x.heap.size + 1, 2, none⟩) rfl (.int .i64 (o : Nat))).setCell (p := ⟨x.heap.size + 1, 3, none⟩) rfl (.int .i64 (si.err : Nat)))
      replace B1 := Lib.hid (show C4 (x.heap.size + 1) tSt (.slice c.ao c.L.length c.cap) (.int .i64 (atN c si : Nat)) (.int .i64 (o : Nat)) (.int .i64 (si.err : Nat)) ((((w9.setCell ⟨x.heap.size + 1, 0, none⟩ (.slice c.ao c.L.length c.cap)).setCell ⟨x.heap.size + 1, 1, none⟩ (.int .i64 (atN c si : Nat))).setCell ⟨x.heap.size + 1, 2, none⟩ (.int .i64 (o : Nat))).setCell ⟨x.heap.size + 1, 3, none⟩ (.int .i64 (si.err : Nat))) from (Lib.heap_setCell_same (i := 3) (Lib.heap_setCell_same (i := 2) (Lib.heap_setCell_same (i := 1) (Lib.heap_setCell_same (i := 0) B1.out (.slice c.ao c.L.length c.cap)) (.int .i64 (atN c si : Nat))) (.int .i64 (o : Nat))) (.int .i64 (si.err : Nat))))
      replace B2 := Lib.hid (B2.out.turn t1 (by omega))
      replace HR := Lib.hid (HR.out.turn t1 fun g hg _ e => show CR ≤ g by omega)
      replace BL := Lib.hid (BL.out.trans (t1.below BL.out.size fun k hk => by omega))
      clear t1
      have HT := Lib.hid (show Turns (Two x) w9 ((((w9.setCell ⟨x.heap.size + 1, 0, none⟩ (.slice c.ao c.L.length c.cap)).setCell ⟨x.heap.size + 1, 1, none⟩ (.int .i64 (atN c si : Nat))).setCell ⟨x.heap.size + 1, 2, none⟩ (.int .i64 (o : Nat))).setCell ⟨x.heap.size + 1, 3, none⟩ (.int .i64 (si.err : Nat))) from Turns.mono (G := Two x) (((((Turns.refl (fun g => g = x.heap.size + 1) w9).setCell (p := ⟨x.heap.size + 1, 0, none⟩) rfl (.slice c.ao c.L.length c.cap)).setCell (p := ⟨x.heap.size + 1, 1, none⟩) rfl (.int .i64 (atN c si : Nat))).setCell (p := ⟨x.heap.size + 1, 2, none⟩) rfl (.int .i64 (o : Nat))).setCell (p := ⟨x.heap.size + 1, 3, none⟩) rfl (.int .i64 (si.err : Nat))) fun _ _ h => .inl h)
      apply Order.acts_any (R := (Turns (Two x))) (fun h k => h.trans k fun _ _ h => h) (i := 2)
      · rfl
      · decide +kernel
      · rfl
      unfold Oper.wp
      go_simp
      refine ⟨HT.out, ?_⟩
      generalize ((((w9.setCell ⟨x.heap.size + 1, 0, none⟩ (.slice c.ao c.L.length c.cap)).setCell ⟨x.heap.size + 1, 1, none⟩ (.int .i64 (atN c si : Nat))).setCell ⟨x.heap.size + 1, 2, none⟩ (.int .i64 (o : Nat))).setCell ⟨x.heap.size + 1, 3, none⟩ (.int .i64 (si.err : Nat))) = w10 at *
      clear HT
      clear q10 q11 q12 q13 f20 f21 f22 f23
      obtain q30 := B2.out.cells
      obtain f40 := B2.out.free
      have t1 : Turns (fun g => g = x.heap.size + 1 + 1) w10 (w10.setCell ⟨x.heap.size + 1 + 1, 0, none⟩ (.slice lo l.length lc)) := ((Turns.refl (fun g => g = x.heap.size + 1 + 1) w10).setCell (p := ⟨x.heap.size + 1 + 1, 0, none⟩) rfl (.slice lo l.length lc))
      replace B1 := Lib.hid (B1.out.turn t1 (by omega))
      replace B2 := Lib.hid (show C1 (x.heap.size + 1 + 1) tCf (.slice lo l.length lc) (w10.setCell ⟨x.heap.size + 1 + 1, 0, none⟩ (.slice lo l.length lc)) from (Lib.heap_setCell_same (i := 0) B2.out (.slice lo l.length lc)))
      replace HR := Lib.hid (HR.out.turn t1 fun g hg _ e => show CR ≤ g by omega)
      replace BL := Lib.hid (BL.out.trans (t1.below BL.out.size fun k hk => by omega))
      clear t1
      have HT := Lib.hid (show Turns (Two x) w10 (w10.setCell ⟨x.heap.size + 1 + 1, 0, none⟩ (.slice lo l.length lc)) from Turns.mono (G := Two x) ((Turns.refl (fun g => g = x.heap.size + 1 + 1) w10).setCell (p := ⟨x.heap.size + 1 + 1, 0, none⟩) rfl (.slice lo l.length lc)) fun _ _ h => .inr h)
      apply Order.acts_any (R := (Turns (Two x))) (fun h k => h.trans k fun _ _ h => h) (i := 3)
      · rfl
      · decide +kernel
      · rfl
      unfold Oper.wp
      go_simp
      refine ⟨HT.out, ?_⟩
      generalize (w10.setCell ⟨x.heap.size + 1 + 1, 0, none⟩ (.slice lo l.length lc)) = w11 at *
      clear HT
      clear q30 f40
      refine wpAnyH_done (by decide +kernel) ?_ _
      refine NoPanic.normal ?_
      go_wp2_with fail
      obtain ⟨g0, g1, g2, g3⟩ := B1.out.cells
      obtain k0 := B2.out.cells
      refine bodyPost_ret (v := .tuple #[.agg #[.slice c.ao c.L.length c.cap, .int .i64 (atN c si : Nat), .int .i64 (o : Nat), .int .i64 (si.err : Nat)], .agg #[.slice lo l.length lc]]) (by simp [results, Tryd.results26, go_sem, g0, g1, g2, g3, k0]) rfl ⟨.agg #[.slice lo l.length lc], ?_, ?_, BL.out⟩
      · rw [HQ.out, show stV c o (_, si).2 = stV c o si from rfl]
      · rw [HQ.out]
        exact ⟨lo, lc, rfl, HR.out.rows.mono (by omega)⟩
end Gr
end Go.Proofs.YtbphmaoomnocmaaDoor
