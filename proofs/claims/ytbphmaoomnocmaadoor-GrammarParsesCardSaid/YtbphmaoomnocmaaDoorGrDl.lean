/-
  Layer 7's document: less. Written by gen/mk_dl.py and ord.py.
-/
import Derived.Test.YtbphmaoomnocmaaDoorGrDx
namespace Go.Proofs.YtbphmaoomnocmaaDoor
open Go.RowKit
namespace Gr
open Knot (Turns NewRow)
open Tr (Nd none0 node4 own_slice Box4)
open Sg (Tok kt TokAt txt)

set_option maxHeartbeats 8000000 in
set_option maxRecDepth 100000 in
theorem dless_any {c : DCtx} {o : Nat} {br : P} (hfb : Fine br) (hp : DPart nodeE c o 93 (atomOf br)) {s : St} {x : World} (h : DEnv c x) (hs : s.rest <:+ kt c.L) :
    Calls Tryd.prog 70 #[stV c o s] x (DOut nodeE c o (lessOf br s) x) := by
  have hfp := atom_fine hfb
  have HQ := Lib.hid (show lessOf br s = if next (atomOf br s).2 = 45 then (.mk 6 none0 none0 [(atomOf br s).1, (atomOf br (tl (atomOf br s).2)).1], (atomOf br (tl (atomOf br s).2)).2) else ((atomOf br s).1, (atomOf br s).2) from rfl)
  generalize lessOf br s = res at *
  have hD := Da.start c x (atN c s) o s.err
  obtain ⟨c0, c1, c2, c3⟩ := hD.box.cells
  have hAt := hp s _ (h.below hD.below) hs
  have B0 := Lib.hid (show C4 x.heap.size tSt _ _ _ _ _ from hD.box)
  have B1 := Lib.hid (show C4 (x.heap.size + 1) tSt _ _ _ _ _ from hD.res)
  have B2 := Lib.hid (show C4 (x.heap.size + 1 + 1) tNd _ _ _ _ _ from hD.nod)
  have BL := Lib.hid hD.below
  clear hD
  show Calls _ _ #[.agg #[.slice c.ao c.L.length c.cap, .int .i64 (atN c s : Nat), .int .i64 (o : Nat), .int .i64 (s.err : Nat)]] _ _
  go_enter Tryd.func70, Tryd.ntmps70
  go_wp2_with fail
  generalize ((x.alloc (.cells #[.slice c.ao c.L.length c.cap, .int .i64 (atN c s : Nat), .int .i64 (o : Nat), .int .i64 (s.err : Nat)] tSt)).alloc (.cells #[.slice none 0 0, .int .i64 0, .int .i64 0, .int .i64 0] tSt)).alloc (.cells #[.int .i64 0, .string ⟨#[]⟩, .string ⟨#[]⟩, .slice none 0 0] tNd) = w1 at *
  refine hAt.mono ?_
  rintro e w2 ⟨v, rfl, hv, hbw⟩
  have hs1 : (atomOf br s).2.rest <:+ kt c.L := (hfp.suf s).trans hs
  have hv' : NodeS (fun g => w1.heap.size ≤ g) w2 (atomOf br s).1 v := hv
  clear hAt hv c0 c1 c2 c3
  generalize (atomOf br s).2 = s1 at *
  generalize (atomOf br s).1 = n at *
  obtain ⟨no, nc, us, rfl, -⟩ := hv'.open
  have HN := Lib.hid (hv'.turn (S' := fun g => x.heap.size + 3 ≤ g ∧ g < w2.heap.size) (Turns.refl (fun _ => False) w2) (fun _ _ _ h => h) fun g hg hl => by have := B2.out.lt; omega)
  clear hv'
  replace B0 := Lib.hid (B0.out.on hbw)
  replace B1 := Lib.hid (B1.out.on hbw)
  replace B2 := Lib.hid (B2.out.on hbw)
  replace BL := Lib.hid (BL.out.trans (hbw.mono BL.out.size))
  clear hbw
  have HW2 : x.heap.size + 3 ≤ w2.heap.size := by have := B2.out.lt; omega
  have al : Below w2.heap.size w2 (w2.alloc (.cells #[.int .i64 0, .string ⟨#[]⟩, .string ⟨#[]⟩, .slice none 0 0] tNd)) := (Below.refl _ _).alloc (Nat.le_refl _) _
  have nz : C4 w2.heap.size tNd (.int .i64 0) (.string ⟨#[]⟩) (.string ⟨#[]⟩) (.slice none 0 0) (w2.alloc (.cells #[.int .i64 0, .string ⟨#[]⟩, .string ⟨#[]⟩, .slice none 0 0] tNd)) := C4.new _ _ _ _ _ _
  have b0 := B0.out.on al
  obtain ⟨c0, c1, c2, c3⟩ := b0.cells
  obtain ⟨u0, u1, u2, u3⟩ := b0.free
  have t1 := st4_own (w2.alloc (.cells #[.int .i64 0, .string ⟨#[]⟩, .string ⟨#[]⟩, .slice none 0 0] tNd)) x.heap.size (.slice c.ao c.L.length c.cap) (.int .i64 (atN c s1 : Nat)) (.int .i64 (o : Nat)) (.int .i64 (s1.err : Nat))
  have mz := nz.turn t1 (by have := B0.out.lt; have := B2.out.lt; omega)
  obtain ⟨m0, m1, m2, m3⟩ := mz.cells
  obtain ⟨n0, n1, n2, n3⟩ := mz.free
  have t2 := st4_own (st4 (w2.alloc (.cells #[.int .i64 0, .string ⟨#[]⟩, .string ⟨#[]⟩, .slice none 0 0] tNd)) x.heap.size (.slice c.ao c.L.length c.cap) (.int .i64 (atN c s1 : Nat)) (.int .i64 (o : Nat)) (.int .i64 (s1.err : Nat))) w2.heap.size (.int .i64 n.kind) (.string n.ta) (.string n.tb) (.slice no n.kids.length nc)
  have B0n := Lib.hid ((b0.put (.slice c.ao c.L.length c.cap) (.int .i64 (atN c s1 : Nat)) (.int .i64 (o : Nat)) (.int .i64 (s1.err : Nat))).turn t2 (by have := B0.out.lt; have := B2.out.lt; omega))
  have B1n := Lib.hid (((B1.out.on al).turn t1 (by have := B0.out.lt; omega)).turn t2 (by have := B1.out.lt; omega))
  have B2n := Lib.hid (((B2.out.on al).turn t1 (by have := B0.out.lt; omega)).turn t2 (by have := B2.out.lt; omega))
  have B4n := Lib.hid (mz.put (.int .i64 n.kind) (.string n.ta) (.string n.tb) (.slice no n.kids.length nc))
  have BLn := Lib.hid (((BL.out.trans (al.mono BL.out.size)).trans (t1.below (Nat.le_trans BL.out.size al.size) fun k hk => by have := BL.out.size; omega)).trans (t2.below (Nat.le_trans (Nat.le_trans BL.out.size al.size) t1.size) fun k hk => by have := BL.out.size; omega))
  have TT := Lib.hid (show Turns (fun g => g = x.heap.size ∨ g = w2.heap.size) w2 (st4 (st4 (w2.alloc (.cells #[.int .i64 0, .string ⟨#[]⟩, .string ⟨#[]⟩, .slice none 0 0] tNd)) x.heap.size (.slice c.ao c.L.length c.cap) (.int .i64 (atN c s1 : Nat)) (.int .i64 (o : Nat)) (.int .i64 (s1.err : Nat))) w2.heap.size (.int .i64 n.kind) (.string n.ta) (.string n.tb) (.slice no n.kids.length nc)) from ((Turns.of_below (F := fun g => g = x.heap.size ∨ g = w2.heap.size) al).trans (t1.mono (G := fun g => g = x.heap.size ∨ g = w2.heap.size) fun _ _ h => .inl h) fun _ _ h => h).trans (t2.mono (G := fun g => g = x.heap.size ∨ g = w2.heap.size) fun _ _ h => .inr h) fun _ _ h => h)
  replace HN := Lib.hid (HN.out.turn TT.out (fun g hg _ => by have := B0.out.lt; have := B2.out.lt; omega) fun g hg _ => hg)
  clear mz nz b0 t1 t2 al BL TT B0 B1 B2
  have B0 := B0n
  have B1 := B1n
  have B2 := B2n
  have B4 := B4n
  have BL := BLn
  clear BLn B0n B1n B2n B4n
  unfold st4 at m0 m1 m2 m3 n0 n1 n2 n3
  unfold st4 at B0 B1 B2 B4 BL HN
  obtain ⟨v0, v1, v2, v3⟩ := B0.out.cells
  go_wp2_with fail
  generalize (((((((((w2.alloc (.cells #[.int .i64 0, .string ⟨#[]⟩, .string ⟨#[]⟩, .slice none 0 0] tNd)).setCell ⟨x.heap.size, 0, none⟩ (.slice c.ao c.L.length c.cap)).setCell ⟨x.heap.size, 1, none⟩ (.int .i64 (atN c s1 : Nat))).setCell ⟨x.heap.size, 2, none⟩ (.int .i64 (o : Nat))).setCell ⟨x.heap.size, 3, none⟩ (.int .i64 (s1.err : Nat))).setCell ⟨w2.heap.size, 0, none⟩ (.int .i64 n.kind)).setCell ⟨w2.heap.size, 1, none⟩ (.string n.ta)).setCell ⟨w2.heap.size, 2, none⟩ (.string n.tb)).setCell ⟨w2.heap.size, 3, none⟩ (.slice no n.kids.length nc)) = w3 at *
  clear c0 c1 c2 c3 u0 u1 u2 u3 m0 m1 m2 m3 n0 n1 n2 n3
  have HB4 := Lib.hid (show x.heap.size + 3 ≤ w2.heap.size from HW2)
  clear HW2
  generalize w2.heap.size = R4 at *
  have hK := dkind_any (o := o) (s := s1) (h.below BL.out) hs1
  clear v0 v1 v2 v3
  refine hK.mono ?_
  rintro e w4 ⟨rfl, hbw⟩
  replace B0 := Lib.hid (B0.out.on hbw)
  replace B1 := Lib.hid (B1.out.on hbw)
  replace B2 := Lib.hid (B2.out.on hbw)
  replace B4 := Lib.hid (B4.out.on hbw)
  replace HN := Lib.hid (NodeS.below HN.out hbw)
  replace BL := Lib.hid (BL.out.trans (hbw.mono BL.out.size))
  clear hK hbw
  by_cases h45 : next s1 = 45
  · have HQ := Lib.hid (HQ.out.trans (if_pos h45))
    have e45 : (next s1 != 45) = false := by rw [h45]; rfl
    have hst := stV_tl1 (o := o) hs1 (by rw [h45]; decide)
    have hs2 : (tl s1).rest <:+ kt c.L := (tl_suf s1).trans hs1
    have t1 := st1_own w4 x.heap.size 1 (.int .i64 ((atN c s1 : Int) + 1))
    have hw := at_wrap h s1
    obtain ⟨c0, c1, c2, c3⟩ := B0.out.cells
    obtain ⟨-, u1, -, -⟩ := B0.out.free
    replace B0 := Lib.hid (B0.out.put1 (.int .i64 ((atN c s1 : Int) + 1)))
    replace B1 := Lib.hid (B1.out.turn t1 (by have := B0.out.lt; omega))
    replace B2 := Lib.hid (B2.out.turn t1 (by have := B0.out.lt; omega))
    replace B4 := Lib.hid (B4.out.turn t1 (by have := HB4.out; omega))
    replace HN := Lib.hid (HN.out.turn t1 (fun g hg _ => by omega) fun g hg _ => hg)
    replace BL := Lib.hid (BL.out.trans (t1.below BL.out.size fun k hk => by omega))
    obtain ⟨v0, v1, v2, v3⟩ := B0.out.cells
    clear t1
    go_wp2_with fail
    generalize (w4.setCell ⟨x.heap.size, 1, none⟩ (.int .i64 ((atN c s1 : Int) + 1))) = w5 at *
    clear c0 c1 c2 c3 u1 hw v0 v1 v2 v3
    have hT := hp (tl s1) _ (h.below BL.out) hs2
    rw [hst] at hT
    refine hT.mono ?_
    rintro e w6 ⟨v, rfl, hv, hbw⟩
    have hv' : NodeS (fun g => w5.heap.size ≤ g) w6 (atomOf br (tl s1)).1 v := hv
    clear hT hv hst e45 h45
    generalize (atomOf br (tl s1)).2 = s2 at *
    generalize (atomOf br (tl s1)).1 = m at *
    obtain ⟨mo, mc, us, rfl, -⟩ := hv'.open
    have HM := Lib.hid (hv'.sub (S' := fun g => x.heap.size + 3 ≤ g ∧ g < w6.heap.size ∧ g ≠ R4) fun g hg hl => by have := B2.out.lt; have := B4.out.lt; omega)
    clear hv'
    replace B0 := Lib.hid (B0.out.on hbw)
    replace B1 := Lib.hid (B1.out.on hbw)
    replace B2 := Lib.hid (B2.out.on hbw)
    replace B4 := Lib.hid (B4.out.on hbw)
    replace HN := Lib.hid (NodeS.below HN.out hbw)
    replace BL := Lib.hid (BL.out.trans (hbw.mono BL.out.size))
    clear hbw
    have HW2 : x.heap.size + 3 ≤ w6.heap.size := by have := B2.out.lt; omega
    have al : Below w6.heap.size w6 (w6.alloc (.cells #[.int .i64 0, .string ⟨#[]⟩, .string ⟨#[]⟩, .slice none 0 0] tNd)) := (Below.refl _ _).alloc (Nat.le_refl _) _
    have nz : C4 w6.heap.size tNd (.int .i64 0) (.string ⟨#[]⟩) (.string ⟨#[]⟩) (.slice none 0 0) (w6.alloc (.cells #[.int .i64 0, .string ⟨#[]⟩, .string ⟨#[]⟩, .slice none 0 0] tNd)) := C4.new _ _ _ _ _ _
    have b0 := B0.out.on al
    obtain ⟨c0, c1, c2, c3⟩ := b0.cells
    obtain ⟨u0, u1, u2, u3⟩ := b0.free
    have t1 := st4_own (w6.alloc (.cells #[.int .i64 0, .string ⟨#[]⟩, .string ⟨#[]⟩, .slice none 0 0] tNd)) x.heap.size (.slice c.ao c.L.length c.cap) (.int .i64 (atN c s2 : Nat)) (.int .i64 (o : Nat)) (.int .i64 (s2.err : Nat))
    have mz := nz.turn t1 (by have := B0.out.lt; have := B2.out.lt; have := HB4.out; omega)
    obtain ⟨m0, m1, m2, m3⟩ := mz.cells
    obtain ⟨n0, n1, n2, n3⟩ := mz.free
    have t2 := st4_own (st4 (w6.alloc (.cells #[.int .i64 0, .string ⟨#[]⟩, .string ⟨#[]⟩, .slice none 0 0] tNd)) x.heap.size (.slice c.ao c.L.length c.cap) (.int .i64 (atN c s2 : Nat)) (.int .i64 (o : Nat)) (.int .i64 (s2.err : Nat))) w6.heap.size (.int .i64 m.kind) (.string m.ta) (.string m.tb) (.slice mo m.kids.length mc)
    have B0n := Lib.hid ((b0.put (.slice c.ao c.L.length c.cap) (.int .i64 (atN c s2 : Nat)) (.int .i64 (o : Nat)) (.int .i64 (s2.err : Nat))).turn t2 (by have := B0.out.lt; have := B2.out.lt; have := HB4.out; omega))
    have B1n := Lib.hid (((B1.out.on al).turn t1 (by have := B0.out.lt; have := HB4.out; omega)).turn t2 (by have := B1.out.lt; omega))
    have B2n := Lib.hid (((B2.out.on al).turn t1 (by have := B0.out.lt; have := HB4.out; omega)).turn t2 (by have := B2.out.lt; omega))
    have B4n := Lib.hid (((B4.out.on al).turn t1 (by have := B0.out.lt; have := HB4.out; omega)).turn t2 (by have := B4.out.lt; omega))
    have B5n := Lib.hid (mz.put (.int .i64 m.kind) (.string m.ta) (.string m.tb) (.slice mo m.kids.length mc))
    have BLn := Lib.hid (((BL.out.trans (al.mono BL.out.size)).trans (t1.below (Nat.le_trans BL.out.size al.size) fun k hk => by have := BL.out.size; omega)).trans (t2.below (Nat.le_trans (Nat.le_trans BL.out.size al.size) t1.size) fun k hk => by have := BL.out.size; omega))
    have TT := Lib.hid (show Turns (fun g => g = x.heap.size ∨ g = w6.heap.size) w6 (st4 (st4 (w6.alloc (.cells #[.int .i64 0, .string ⟨#[]⟩, .string ⟨#[]⟩, .slice none 0 0] tNd)) x.heap.size (.slice c.ao c.L.length c.cap) (.int .i64 (atN c s2 : Nat)) (.int .i64 (o : Nat)) (.int .i64 (s2.err : Nat))) w6.heap.size (.int .i64 m.kind) (.string m.ta) (.string m.tb) (.slice mo m.kids.length mc)) from ((Turns.of_below (F := fun g => g = x.heap.size ∨ g = w6.heap.size) al).trans (t1.mono (G := fun g => g = x.heap.size ∨ g = w6.heap.size) fun _ _ h => .inl h) fun _ _ h => h).trans (t2.mono (G := fun g => g = x.heap.size ∨ g = w6.heap.size) fun _ _ h => .inr h) fun _ _ h => h)
    replace HN := Lib.hid (HN.out.turn TT.out (fun g hg _ => by have := B0.out.lt; have := B2.out.lt; have := B4.out.lt; omega) fun g hg _ => hg)
    replace HM := Lib.hid (HM.out.turn TT.out (fun g hg _ => by have := B0.out.lt; have := B2.out.lt; have := B4.out.lt; omega) fun g hg _ => hg)
    clear mz nz b0 t1 t2 al BL TT B0 B1 B2 B4
    have B0 := B0n
    have B1 := B1n
    have B2 := B2n
    have B4 := B4n
    have B5 := B5n
    have BL := BLn
    clear BLn B0n B1n B2n B4n B5n
    unfold st4 at m0 m1 m2 m3 n0 n1 n2 n3
    unfold st4 at B0 B1 B2 B4 B5 BL HN HM
    obtain ⟨v0, v1, v2, v3⟩ := B0.out.cells
    go_wp2_with fail
    generalize (((((((((w6.alloc (.cells #[.int .i64 0, .string ⟨#[]⟩, .string ⟨#[]⟩, .slice none 0 0] tNd)).setCell ⟨x.heap.size, 0, none⟩ (.slice c.ao c.L.length c.cap)).setCell ⟨x.heap.size, 1, none⟩ (.int .i64 (atN c s2 : Nat))).setCell ⟨x.heap.size, 2, none⟩ (.int .i64 (o : Nat))).setCell ⟨x.heap.size, 3, none⟩ (.int .i64 (s2.err : Nat))).setCell ⟨w6.heap.size, 0, none⟩ (.int .i64 m.kind)).setCell ⟨w6.heap.size, 1, none⟩ (.string m.ta)).setCell ⟨w6.heap.size, 2, none⟩ (.string m.tb)).setCell ⟨w6.heap.size, 3, none⟩ (.slice mo m.kids.length mc)) = w7 at *
    clear c0 c1 c2 c3 u0 u1 u2 u3 m0 m1 m2 m3 n0 n1 n2 n3
    have HB5 := Lib.hid (show x.heap.size + 3 ≤ w6.heap.size from HW2)
    clear HW2
    generalize w6.heap.size = R5 at *
    obtain ⟨c0, c1, c2, c3⟩ := B0.out.cells
    go_wp2_with fail
    clear c0 c1 c2 c3
    have D0 := Lib.hid (B0.out.on (Below.refl _ _).drew)
    have D1 := Lib.hid (B1.out.on (Below.refl _ _).drew)
    have D2 := Lib.hid (B2.out.on (Below.refl _ _).drew)
    have DB4 := Lib.hid (B4.out.on (Below.refl _ _).drew)
    have DB5 := Lib.hid (B5.out.on (Below.refl _ _).drew)
    have DHN := Lib.hid ((NodeS.below HN.out (Below.refl _ _).drew).sub (S' := fun g => x.heap.size + 3 ≤ g) fun g hg _ => hg.1)
    have DHM := Lib.hid ((NodeS.below HM.out (Below.refl _ _).drew).sub (S' := fun g => x.heap.size + 3 ≤ g) fun g hg _ => hg.1)
    have DL := Lib.hid (BL.out.trans (((Below.refl w7.heap.size w7).drew).mono BL.out.size))
    clear B0 B1 B2 B4 B5 BL HN HM
    refine Order.region_begin (S := Turns (Two x) w7.drew) (by kernel_rfl) ?_
    generalize w7.drew = w9 at *
    have HX := Lib.hid (show ∀ z, Turns (Two x) w9 z → _ from fun z hz => And.intro (D0.out.turn hz (by omega)).cells (And.intro (DB4.out.turn hz (by have := HB4.out; omega)).cells ((DB5.out.turn hz (by have := HB5.out; omega)).cells)))
    refine Order.reads_any (idx := [0, 1, 2]) (by kernel_rfl) (Turns.refl _ _) (fun _ _ _ _ _ h => Order.noPanic_put h) 4 _ _ (by decide +kernel) ?_
    simp only [Order.pick, List.getElem?_toArray, List.getElem?_cons_zero, List.getElem?_cons_succ]
    repeat (first
      | (refine Order.reads_off (by rfl) ?_
         simp only [Act.put, List.setIfInBounds_toArray, List.set_cons_zero, List.set_cons_succ])
      | (apply Order.reads_on
         · rfl
         · intro x hx
           first
             | (go_simp; rfl)
             | (obtain ⟨⟨i0, i1, i2, i3⟩, ⟨i4, i5, i6, i7⟩, ⟨i8, i9, i10, i11⟩⟩ := HX.out x hx
                go_simp; rfl)
         simp only [Act.put, List.setIfInBounds_toArray, List.set_cons_zero, List.set_cons_succ]))
    refine Order.reads_end ?_
    clear HX
    have KEEP := Lib.hid (And.intro D1.out (And.intro D2.out (And.intro DHN.out (And.intro DHM.out DL.out))))
    obtain ⟨d0, d1, d2, d3⟩ := D1.out.cells
    obtain ⟨f0, f1, f2, f3⟩ := D1.out.free
    apply acts_two (R := Turns (Two x)) (fun h k => h.trans k fun _ _ h => h) (i := 3) (j := 5)
    · rfl
    · rfl
    · decide +kernel
    · rfl
    · rfl
    · unfold Oper.wp
      go_simp
      clear KEEP d0 d1 d2 d3 f0 f1 f2 f3
      refine ⟨Turns.of_below ((Below.refl _ _).alloc (Nat.le_refl _) _), ?_⟩
      have al : Below w9.heap.size w9 (w9.alloc (.cells #[.int .i64 n.kind, .string n.ta, .string n.tb, .slice no n.kids.length nc, .int .i64 m.kind, .string m.ta, .string m.tb, .slice mo m.kids.length mc] tNd)) := (Below.refl _ _).alloc (Nat.le_refl _) _
      replace D1 := Lib.hid (D1.out.on al)
      have DN := Lib.hid (two_node (k := 6) (cap := 2) (heap_alloc_new w9 _) (NodeS.below DHN.out al) (NodeS.below DHM.out al) (show x.heap.size + 3 ≤ w9.heap.size by have := D2.out.lt; omega))
      replace D2 := Lib.hid (D2.out.on al)
      replace DL := Lib.hid (DL.out.trans (al.mono DL.out.size))
      clear al DHN DHM
      generalize (w9.alloc (.cells #[.int .i64 n.kind, .string n.ta, .string n.tb, .slice no n.kids.length nc, .int .i64 m.kind, .string m.ta, .string m.tb, .slice mo m.kids.length mc] tNd)) = w10 at *
      refine Order.reads_any (idx := [4]) (by kernel_rfl) (Turns.refl _ _) (fun _ _ _ _ _ h => Order.noPanic_put h) 2 _ _ (by decide +kernel) ?_
      simp only [Order.pick, List.getElem?_toArray, List.getElem?_cons_zero, List.getElem?_cons_succ]
      repeat (first
        | (refine Order.reads_off (by rfl) ?_
           simp only [Act.put, List.setIfInBounds_toArray, List.set_cons_zero, List.set_cons_succ])
        | (apply Order.reads_on
           · rfl
           · intro x hx
             first
               | (go_simp; rfl)
               | (fail
                  go_simp; rfl)
           simp only [Act.put]))
      refine Order.reads_end ?_
      obtain ⟨d0, d1, d2, d3⟩ := D1.out.cells
      obtain ⟨f0, f1, f2, f3⟩ := D1.out.free
      have t1 := st4_own w10 (x.heap.size + 1) (.slice c.ao c.L.length c.cap) (.int .i64 (atN c s2 : Nat)) (.int .i64 (o : Nat)) (.int .i64 (s2.err : Nat))
      replace D1 := Lib.hid (D1.out.put (.slice c.ao c.L.length c.cap) (.int .i64 (atN c s2 : Nat)) (.int .i64 (o : Nat)) (.int .i64 (s2.err : Nat)))
      replace D2 := Lib.hid (D2.out.turn t1 (by omega))
      replace DN := Lib.hid (DN.out.turn t1 (fun g hg _ => by omega) fun g hg _ => hg)
      replace DL := Lib.hid (DL.out.trans (t1.below DL.out.size fun k hk => by omega))
      have HT := Lib.hid (t1.mono (G := Two x) fun _ _ h => .inl h)
      clear t1
      unfold st4 at D1 D2 DN DL HT
      apply Order.acts_any (R := (Turns (Two x))) (fun h k => h.trans k fun _ _ h => h) (i := 5)
      · rfl
      · decide +kernel
      · rfl
      unfold Oper.wp
      go_simp
      refine ⟨HT.out, ?_⟩
      generalize ((((w10.setCell ⟨x.heap.size + 1, 0, none⟩ (.slice c.ao c.L.length c.cap)).setCell ⟨x.heap.size + 1, 1, none⟩ (.int .i64 (atN c s2 : Nat))).setCell ⟨x.heap.size + 1, 2, none⟩ (.int .i64 (o : Nat))).setCell ⟨x.heap.size + 1, 3, none⟩ (.int .i64 (s2.err : Nat))) = w11 at *
      clear HT d0 d1 d2 d3 f0 f1 f2 f3
      obtain ⟨d0, d1, d2, d3⟩ := D2.out.cells
      obtain ⟨f0, f1, f2, f3⟩ := D2.out.free
      have t1 := st4_own w11 (x.heap.size + 1 + 1) (.int .i64 6) (.string ⟨#[]⟩) (.string ⟨#[]⟩) (.slice (some ⟨w9.heap.size, 0, none⟩) 2 2)
      replace D2 := Lib.hid (D2.out.put (.int .i64 6) (.string ⟨#[]⟩) (.string ⟨#[]⟩) (.slice (some ⟨w9.heap.size, 0, none⟩) 2 2))
      replace D1 := Lib.hid (D1.out.turn t1 (by omega))
      replace DN := Lib.hid (DN.out.turn t1 (fun g hg _ => by omega) fun g hg _ => hg)
      replace DL := Lib.hid (DL.out.trans (t1.below DL.out.size fun k hk => by omega))
      have HT := Lib.hid (t1.mono (G := Two x) fun _ _ h => .inr h)
      clear t1
      unfold st4 at D2 D1 DN DL HT
      apply Order.acts_any (R := (Turns (Two x))) (fun h k => h.trans k fun _ _ h => h) (i := 6)
      · rfl
      · decide +kernel
      · rfl
      unfold Oper.wp
      go_simp
      refine ⟨HT.out, ?_⟩
      generalize ((((w11.setCell ⟨x.heap.size + 1 + 1, 0, none⟩ (.int .i64 6)).setCell ⟨x.heap.size + 1 + 1, 1, none⟩ (.string ⟨#[]⟩)).setCell ⟨x.heap.size + 1 + 1, 2, none⟩ (.string ⟨#[]⟩)).setCell ⟨x.heap.size + 1 + 1, 3, none⟩ (.slice (some ⟨w9.heap.size, 0, none⟩) 2 2)) = w12 at *
      clear HT d0 d1 d2 d3 f0 f1 f2 f3
      refine wpAnyH_done (by decide +kernel) ?_ _
      refine NoPanic.normal ?_
      go_wp2_with fail
      obtain ⟨g0, g1, g2, g3⟩ := D1.out.cells
      obtain ⟨k0, k1, k2, k3⟩ := D2.out.cells
      refine bodyPost_ret (v := .tuple #[.agg #[.slice c.ao c.L.length c.cap, .int .i64 (atN c s2 : Nat), .int .i64 (o : Nat), .int .i64 (s2.err : Nat)], .agg #[.int .i64 6, .string ⟨#[]⟩, .string ⟨#[]⟩, .slice (some ⟨w9.heap.size, 0, none⟩) 2 2]]) (by simp [results, Tryd.results70, go_sem, g0, g1, g2, g3, k0, k1, k2, k3]) rfl ⟨.agg #[.int .i64 6, .string ⟨#[]⟩, .string ⟨#[]⟩, .slice (some ⟨w9.heap.size, 0, none⟩) 2 2], ?_, ?_, DL.out⟩
      · rw [HQ.out, show stV c o (_, s2).2 = stV c o s2 from rfl]
      · rw [HQ.out]
        exact DN.out.sub fun g hg _ => by omega
    · unfold Oper.wp
      go_simp
      clear KEEP
      have t1 := st4_own w9 (x.heap.size + 1) (.slice c.ao c.L.length c.cap) (.int .i64 (atN c s2 : Nat)) (.int .i64 (o : Nat)) (.int .i64 (s2.err : Nat))
      replace D1 := Lib.hid (D1.out.put (.slice c.ao c.L.length c.cap) (.int .i64 (atN c s2 : Nat)) (.int .i64 (o : Nat)) (.int .i64 (s2.err : Nat)))
      replace D2 := Lib.hid (D2.out.turn t1 (by omega))
      replace DHN := Lib.hid (DHN.out.turn t1 (fun g hg _ => by omega) fun g hg _ => hg)
      replace DHM := Lib.hid (DHM.out.turn t1 (fun g hg _ => by omega) fun g hg _ => hg)
      replace DL := Lib.hid (DL.out.trans (t1.below DL.out.size fun k hk => by omega))
      have HT := Lib.hid (t1.mono (G := Two x) fun _ _ h => .inl h)
      clear t1
      unfold st4 at D1 D2 DHN DHM DL HT
      refine ⟨HT.out, ?_⟩
      generalize ((((w9.setCell ⟨(x.heap.size + 1), 0, none⟩ (.slice c.ao c.L.length c.cap)).setCell ⟨(x.heap.size + 1), 1, none⟩ (.int .i64 (atN c s2 : Nat))).setCell ⟨(x.heap.size + 1), 2, none⟩ (.int .i64 (o : Nat))).setCell ⟨(x.heap.size + 1), 3, none⟩ (.int .i64 (s2.err : Nat))) = w10 at *
      clear HT d0 d1 d2 d3 f0 f1 f2 f3
      apply Order.acts_any (R := (Turns (Two x))) (fun h k => h.trans k fun _ _ h => h) (i := 3)
      · rfl
      · decide +kernel
      · rfl
      unfold Oper.wp
      go_simp
      refine ⟨Turns.of_below ((Below.refl _ _).alloc (Nat.le_refl _) _), ?_⟩
      have al : Below w10.heap.size w10 (w10.alloc (.cells #[.int .i64 n.kind, .string n.ta, .string n.tb, .slice no n.kids.length nc, .int .i64 m.kind, .string m.ta, .string m.tb, .slice mo m.kids.length mc] tNd)) := (Below.refl _ _).alloc (Nat.le_refl _) _
      replace D1 := Lib.hid (D1.out.on al)
      have DN := Lib.hid (two_node (k := 6) (cap := 2) (heap_alloc_new w10 _) (NodeS.below DHN.out al) (NodeS.below DHM.out al) (show x.heap.size + 3 ≤ w10.heap.size by have := D2.out.lt; omega))
      replace D2 := Lib.hid (D2.out.on al)
      replace DL := Lib.hid (DL.out.trans (al.mono DL.out.size))
      clear al DHN DHM
      generalize (w10.alloc (.cells #[.int .i64 n.kind, .string n.ta, .string n.tb, .slice no n.kids.length nc, .int .i64 m.kind, .string m.ta, .string m.tb, .slice mo m.kids.length mc] tNd)) = w11 at *
      refine Order.reads_any (idx := [4]) (by kernel_rfl) (Turns.refl _ _) (fun _ _ _ _ _ h => Order.noPanic_put h) 1 _ _ (by decide +kernel) ?_
      simp only [Order.pick, List.getElem?_toArray, List.getElem?_cons_zero, List.getElem?_cons_succ]
      repeat (first
        | (refine Order.reads_off (by rfl) ?_
           simp only [Act.put, List.setIfInBounds_toArray, List.set_cons_zero, List.set_cons_succ])
        | (apply Order.reads_on
           · rfl
           · intro x hx
             first
               | (go_simp; rfl)
               | (fail
                  go_simp; rfl)
           simp only [Act.put]))
      refine Order.reads_end ?_
      obtain ⟨d0, d1, d2, d3⟩ := D2.out.cells
      obtain ⟨f0, f1, f2, f3⟩ := D2.out.free
      have t1 := st4_own w11 (x.heap.size + 1 + 1) (.int .i64 6) (.string ⟨#[]⟩) (.string ⟨#[]⟩) (.slice (some ⟨w10.heap.size, 0, none⟩) 2 2)
      replace D2 := Lib.hid (D2.out.put (.int .i64 6) (.string ⟨#[]⟩) (.string ⟨#[]⟩) (.slice (some ⟨w10.heap.size, 0, none⟩) 2 2))
      replace D1 := Lib.hid (D1.out.turn t1 (by omega))
      replace DN := Lib.hid (DN.out.turn t1 (fun g hg _ => by omega) fun g hg _ => hg)
      replace DL := Lib.hid (DL.out.trans (t1.below DL.out.size fun k hk => by omega))
      have HT := Lib.hid (t1.mono (G := Two x) fun _ _ h => .inr h)
      clear t1
      unfold st4 at D2 D1 DN DL HT
      apply Order.acts_any (R := (Turns (Two x))) (fun h k => h.trans k fun _ _ h => h) (i := 6)
      · rfl
      · decide +kernel
      · rfl
      unfold Oper.wp
      go_simp
      refine ⟨HT.out, ?_⟩
      generalize ((((w11.setCell ⟨x.heap.size + 1 + 1, 0, none⟩ (.int .i64 6)).setCell ⟨x.heap.size + 1 + 1, 1, none⟩ (.string ⟨#[]⟩)).setCell ⟨x.heap.size + 1 + 1, 2, none⟩ (.string ⟨#[]⟩)).setCell ⟨x.heap.size + 1 + 1, 3, none⟩ (.slice (some ⟨w10.heap.size, 0, none⟩) 2 2)) = w12 at *
      clear HT d0 d1 d2 d3 f0 f1 f2 f3
      refine wpAnyH_done (by decide +kernel) ?_ _
      refine NoPanic.normal ?_
      go_wp2_with fail
      obtain ⟨g0, g1, g2, g3⟩ := D1.out.cells
      obtain ⟨k0, k1, k2, k3⟩ := D2.out.cells
      refine bodyPost_ret (v := .tuple #[.agg #[.slice c.ao c.L.length c.cap, .int .i64 (atN c s2 : Nat), .int .i64 (o : Nat), .int .i64 (s2.err : Nat)], .agg #[.int .i64 6, .string ⟨#[]⟩, .string ⟨#[]⟩, .slice (some ⟨w10.heap.size, 0, none⟩) 2 2]]) (by simp [results, Tryd.results70, go_sem, g0, g1, g2, g3, k0, k1, k2, k3]) rfl ⟨.agg #[.int .i64 6, .string ⟨#[]⟩, .string ⟨#[]⟩, .slice (some ⟨w10.heap.size, 0, none⟩) 2 2], ?_, ?_, DL.out⟩
      · rw [HQ.out, show stV c o (_, s2).2 = stV c o s2 from rfl]
      · rw [HQ.out]
        exact DN.out.sub fun g hg _ => by omega

  · have HQ := Lib.hid (HQ.out.trans (if_neg h45))
    have e45 : (next s1 != 45) = true := by simpa using h45
    obtain ⟨c0, c1, c2, c3⟩ := B0.out.cells
    go_wp2_with fail
    clear c0 c1 c2 c3
    have D0 := Lib.hid (B0.out.on (Below.refl _ _).drew)
    have D1 := Lib.hid (B1.out.on (Below.refl _ _).drew)
    have D2 := Lib.hid (B2.out.on (Below.refl _ _).drew)
    have D4 := Lib.hid (B4.out.on (Below.refl _ _).drew)
    have DL := Lib.hid (BL.out.trans (((Below.refl w4.heap.size w4).drew).mono BL.out.size))
    have DN := Lib.hid ((NodeS.below HN.out (Below.refl _ _).drew).sub (S' := fun g => x.heap.size + 3 ≤ g) fun g hg _ => hg.1)
    clear B0 B1 B2 B4 BL HN
    refine Order.region_begin (S := Turns (Two x) w4.drew) (by kernel_rfl) ?_
    generalize w4.drew = w9 at *
    have HX := Lib.hid (show ∀ z, Turns (Two x) w9 z → _ from fun z hz => And.intro (D0.out.turn hz (by omega)).cells (D4.out.turn hz (by have := HB4.out; omega)).cells)
    obtain ⟨d0, d1, d2, d3⟩ := D1.out.cells
    obtain ⟨f0, f1, f2, f3⟩ := D1.out.free
    have hF := fin_nd D1.out D2.out DL.out DN.out (.slice c.ao c.L.length c.cap) (.int .i64 (atN c s1 : Nat)) (.int .i64 (o : Nat)) (.int .i64 (s1.err : Nat)) (.int .i64 n.kind) (.string n.ta) (.string n.tb) (.slice no n.kids.length nc)
    obtain ⟨m0, m1, m2, m3⟩ := hF.1.cells
    obtain ⟨n0, n1, n2, n3⟩ := hF.1.free
    have HG := Lib.hid (And.intro hF.2.1.cells (And.intro hF.2.2.1.cells (And.intro hF.2.2.2.1 hF.2.2.2.2.1)))
    have HT1 := Lib.hid hF.2.2.2.2.2.1
    have HT2 := Lib.hid hF.2.2.2.2.2.2
    unfold st4 at m0 m1 m2 m3 n0 n1 n2 n3 HT1 HT2 HG
    clear hF
    refine Order.reads_any (idx := [0, 1]) (by kernel_rfl) (Turns.refl _ _) (fun _ _ _ _ _ h => Order.noPanic_put h) 2 _ _ (by decide +kernel) ?_
    simp only [Order.pick, List.getElem?_toArray, List.getElem?_cons_zero, List.getElem?_cons_succ]
    repeat (first
      | (refine Order.reads_off (by rfl) ?_
         simp only [Act.put, List.setIfInBounds_toArray, List.set_cons_zero, List.set_cons_succ])
      | (apply Order.reads_on
         · rfl
         · intro x hx
           first
             | (go_simp; rfl)
             | (obtain ⟨⟨i0, i1, i2, i3⟩, i4, i5, i6, i7⟩ := HX.out x hx
                go_simp; rfl)
         simp only [Act.put, List.setIfInBounds_toArray, List.set_cons_zero, List.set_cons_succ]))
    refine Order.reads_end ?_
    apply Order.acts_any (R := (Turns (Two x))) (fun h k => h.trans k fun _ _ h => h) (i := 2)
    · rfl
    · decide +kernel
    · rfl
    unfold Oper.wp
    go_simp
    refine ⟨HT1.out, ?_⟩
    apply Order.acts_any (R := (Turns (Two x))) (fun h k => h.trans k fun _ _ h => h) (i := 3)
    · rfl
    · decide +kernel
    · rfl
    unfold Oper.wp
    go_simp
    refine ⟨HT2.out, ?_⟩
    refine wpAnyH_done (by decide +kernel) ?_ _
    refine NoPanic.normal ?_
    clear HX m0 m1 m2 m3 n0 n1 n2 n3 d0 d1 d2 d3 f0 f1 f2 f3 HT1 HT2
    go_wp2_with fail
    obtain ⟨⟨g0, g1, g2, g3⟩, ⟨k0, k1, k2, k3⟩, hN, hbb⟩ := HG.out
    refine bodyPost_ret (v := .tuple #[.agg #[.slice c.ao c.L.length c.cap, .int .i64 (atN c s1 : Nat), .int .i64 (o : Nat), .int .i64 (s1.err : Nat)], .agg #[.int .i64 n.kind, .string n.ta, .string n.tb, .slice no n.kids.length nc]]) (by simp [results, Tryd.results70, go_sem, g0, g1, g2, g3, k0, k1, k2, k3]) rfl ⟨.agg #[.int .i64 n.kind, .string n.ta, .string n.tb, .slice no n.kids.length nc], ?_, ?_, hbb⟩
    · rw [HQ.out, show stV c o (n, s1).2 = stV c o s1 from rfl]
    · rw [HQ.out]
      exact hN
end Gr
end Go.Proofs.YtbphmaoomnocmaaDoor
