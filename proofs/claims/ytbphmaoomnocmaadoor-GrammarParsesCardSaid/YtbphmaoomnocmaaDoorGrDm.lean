/-
  Layer 7's document: meet, Union. Written by gen/mk_dm.py and ord.py.
-/
import Derived.Test.YtbphmaoomnocmaaDoorGrDl
import Derived.Test.YtbphmaoomnocmaaDoorGrDr
import Derived.Deep.DeepCutAuto
namespace Go.Proofs.YtbphmaoomnocmaaDoor
open Go.RowKit
namespace Gr
open Knot (Turns NewRow)
open Tr (Nd none0 node4 own_slice Box4)
open Sg (Tok kt TokAt txt)

set_option maxHeartbeats 8000000 in
set_option maxRecDepth 100000 in
theorem dmeet_any {c : DCtx} {o : Nat} {p : P} (hfp : Fine p) (hp : DPart nodeE c o 70 p) {s : St} {x : World} (h : DEnv c x) (hs : s.rest <:+ kt c.L) :
    Calls Tryd.prog 48 #[stV c o s] x (DOut nodeE c o (joined 5 (list p 38 s).1, (list p 38 s).2) x) := by
  have HQ := Lib.hid (show list p 38 s = ((p s).1 :: (eachs p 38 (p s).2).1, (eachs p 38 (p s).2).2) from rfl)
  generalize hres : list p 38 s = res at *
  have HF := Lib.hid hfp
  have HLen := Lib.hid (show (p s).2.rest.length ≤ 10000 by have := (hfp.suf s).length_le; have := dlen hs; have := h.len; omega)
  have hD := Da.start c x (atN c s) o s.err
  obtain ⟨c0, c1, c2, c3⟩ := hD.box.cells
  have hAt := hp s _ (h.below hD.below) hs
  have B0 := Lib.hid (show C4 x.heap.size tSt _ _ _ _ _ from hD.box)
  have B1 := Lib.hid (show C4 (x.heap.size + 1) tSt _ _ _ _ _ from hD.res)
  have B2 := Lib.hid (show C4 (x.heap.size + 1 + 1) tNd _ _ _ _ _ from hD.nod)
  have BL := Lib.hid hD.below
  clear hD
  show Calls _ _ #[.agg #[.slice c.ao c.L.length c.cap, .int .i64 (atN c s : Nat), .int .i64 (o : Nat), .int .i64 (s.err : Nat)]] _ _
  go_enter Tryd.func48, Tryd.ntmps48
  go_wp2_with fail
  generalize ((x.alloc (.cells #[.slice c.ao c.L.length c.cap, .int .i64 (atN c s : Nat), .int .i64 (o : Nat), .int .i64 (s.err : Nat)] tSt)).alloc (.cells #[.slice none 0 0, .int .i64 0, .int .i64 0, .int .i64 0] tSt)).alloc (.cells #[.int .i64 0, .string ⟨#[]⟩, .string ⟨#[]⟩, .slice none 0 0] tNd) = w1 at *
  refine hAt.mono ?_
  rintro e w2 ⟨v, rfl, hv, hbw⟩
  have hs1 : (p s).2.rest <:+ kt c.L := (hfp.suf s).trans hs
  have hv' : NodeS (fun g => w1.heap.size ≤ g) w2 (p s).1 v := hv
  clear hAt hv c0 c1 c2 c3 hres
  generalize (p s).2 = s1 at *
  generalize (p s).1 = n at *
  obtain ⟨no, nc, us, rfl, -⟩ := hv'.open
  have HN := Lib.hid (hv'.turn (S' := fun g => x.heap.size + 3 ≤ g ∧ g < w2.heap.size) (Turns.refl (fun _ => False) w2) (fun _ _ _ h => h) fun g hg hl => by have := B2.out.lt; omega)
  clear hv'
  replace B0 := Lib.hid (B0.out.on hbw)
  replace B1 := Lib.hid (B1.out.on hbw)
  replace B2 := Lib.hid (B2.out.on hbw)
  replace BL := Lib.hid (BL.out.trans (hbw.mono BL.out.size))
  clear hbw
  have HW2 : x.heap.size + 3 ≤ w2.heap.size := by have := B2.out.lt; omega
  have al : Below w2.heap.size w2 (w2.alloc (.cells #[.int .i64 0, .string ⟨#[]⟩, .string ⟨#[]⟩, .slice none 0 0] tNd)) := (Below.refl _ _).alloc (Nat.le_refl _) _
  have nz : C4 w2.heap.size tNd (.int .i64 0) (.string ⟨#[]⟩) (.string ⟨#[]⟩) (.slice none 0 0) (w2.alloc (.cells #[.int .i64 0, .string ⟨#[]⟩, .string ⟨#[]⟩, .slice none 0 0] tNd)) := C4.new _ _ _ _ _ _
  have b0 := B0.out.on al
  obtain ⟨c0, c1, c2, c3⟩ := b0.cells
  obtain ⟨u0, u1, u2, u3⟩ := b0.free
  have t1 := st4_own (w2.alloc (.cells #[.int .i64 0, .string ⟨#[]⟩, .string ⟨#[]⟩, .slice none 0 0] tNd)) x.heap.size (.slice c.ao c.L.length c.cap) (.int .i64 (atN c s1 : Nat)) (.int .i64 (o : Nat)) (.int .i64 (s1.err : Nat))
  have mz := nz.turn t1 (by have := B0.out.lt; have := B2.out.lt; omega)
  obtain ⟨m0, m1, m2, m3⟩ := mz.cells
  obtain ⟨n0, n1, n2, n3⟩ := mz.free
  have t2 := st4_own (st4 (w2.alloc (.cells #[.int .i64 0, .string ⟨#[]⟩, .string ⟨#[]⟩, .slice none 0 0] tNd)) x.heap.size (.slice c.ao c.L.length c.cap) (.int .i64 (atN c s1 : Nat)) (.int .i64 (o : Nat)) (.int .i64 (s1.err : Nat))) w2.heap.size (.int .i64 n.kind) (.string n.ta) (.string n.tb) (.slice no n.kids.length nc)
  have B0n := Lib.hid ((b0.put (.slice c.ao c.L.length c.cap) (.int .i64 (atN c s1 : Nat)) (.int .i64 (o : Nat)) (.int .i64 (s1.err : Nat))).turn t2 (by have := B0.out.lt; have := B2.out.lt; omega))
  have B1n := Lib.hid (((B1.out.on al).turn t1 (by have := B0.out.lt; omega)).turn t2 (by have := B1.out.lt; omega))
  have B2n := Lib.hid (((B2.out.on al).turn t1 (by have := B0.out.lt; omega)).turn t2 (by have := B2.out.lt; omega))
  have B4n := Lib.hid (mz.put (.int .i64 n.kind) (.string n.ta) (.string n.tb) (.slice no n.kids.length nc))
  have BLn := Lib.hid (((BL.out.trans (al.mono BL.out.size)).trans (t1.below (Nat.le_trans BL.out.size al.size) fun k hk => by have := BL.out.size; omega)).trans (t2.below (Nat.le_trans (Nat.le_trans BL.out.size al.size) t1.size) fun k hk => by have := BL.out.size; omega))
  have HZ := Lib.hid (show (st4 (st4 (w2.alloc (.cells #[.int .i64 0, .string ⟨#[]⟩, .string ⟨#[]⟩, .slice none 0 0] tNd)) x.heap.size (.slice c.ao c.L.length c.cap) (.int .i64 (atN c s1 : Nat)) (.int .i64 (o : Nat)) (.int .i64 (s1.err : Nat))) w2.heap.size (.int .i64 n.kind) (.string n.ta) (.string n.tb) (.slice no n.kids.length nc)).heap.size = w2.heap.size + 1 by rw [st4_size, st4_size]; simp)
  have TT := Lib.hid (show Turns (fun g => g = x.heap.size ∨ g = w2.heap.size) w2 (st4 (st4 (w2.alloc (.cells #[.int .i64 0, .string ⟨#[]⟩, .string ⟨#[]⟩, .slice none 0 0] tNd)) x.heap.size (.slice c.ao c.L.length c.cap) (.int .i64 (atN c s1 : Nat)) (.int .i64 (o : Nat)) (.int .i64 (s1.err : Nat))) w2.heap.size (.int .i64 n.kind) (.string n.ta) (.string n.tb) (.slice no n.kids.length nc)) from ((Turns.of_below (F := fun g => g = x.heap.size ∨ g = w2.heap.size) al).trans (t1.mono (G := fun g => g = x.heap.size ∨ g = w2.heap.size) fun _ _ h => .inl h) fun _ _ h => h).trans (t2.mono (G := fun g => g = x.heap.size ∨ g = w2.heap.size) fun _ _ h => .inr h) fun _ _ h => h)
  replace HN := Lib.hid (HN.out.turn TT.out (fun g hg _ => by have := B0.out.lt; have := B2.out.lt; omega) fun g hg _ => hg)
  clear mz nz b0 t1 t2 al BL TT B0 B1 B2
  have B0 := B0n
  have B1 := B1n
  have B2 := B2n
  have B4 := B4n
  have BL := BLn
  clear BLn B0n B1n B2n B4n
  unfold st4 at m0 m1 m2 m3 n0 n1 n2 n3
  unfold st4 at B0 B1 B2 B4 BL HN HZ
  obtain ⟨v0, v1, v2, v3⟩ := B4.out.cells
  go_wp2_with fail
  generalize (((((((((w2.alloc (.cells #[.int .i64 0, .string ⟨#[]⟩, .string ⟨#[]⟩, .slice none 0 0] tNd)).setCell ⟨x.heap.size, 0, none⟩ (.slice c.ao c.L.length c.cap)).setCell ⟨x.heap.size, 1, none⟩ (.int .i64 (atN c s1 : Nat))).setCell ⟨x.heap.size, 2, none⟩ (.int .i64 (o : Nat))).setCell ⟨x.heap.size, 3, none⟩ (.int .i64 (s1.err : Nat))).setCell ⟨w2.heap.size, 0, none⟩ (.int .i64 n.kind)).setCell ⟨w2.heap.size, 1, none⟩ (.string n.ta)).setCell ⟨w2.heap.size, 2, none⟩ (.string n.tb)).setCell ⟨w2.heap.size, 3, none⟩ (.slice no n.kids.length nc)) = w3 at *
  clear c0 c1 c2 c3 u0 u1 u2 u3 m0 m1 m2 m3 n0 n1 n2 n3
  have HB4 := Lib.hid (show x.heap.size + 3 ≤ w2.heap.size from HW2)
  clear HW2
  clear v0 v1 v2 v3
  generalize w2.heap.size = R4 at *
  have al : Below w3.heap.size w3 (w3.alloc (.cells #[.int .i64 n.kind, .string n.ta, .string n.tb, .slice no n.kids.length nc] tNd)) := (Below.refl _ _).alloc (Nat.le_refl _) _
  have HX : RowX nodeE (fun g => g = R4) (w3.alloc (.cells #[.int .i64 n.kind, .string n.ta, .string n.tb, .slice no n.kids.length nc] tNd)) (x.heap.size + 3) tNd (.slice (some ⟨R4 + 1, 0, none⟩) 1 1) [n] := by
    rw [← HZ.out]
    exact RowX.one (C := x.heap.size + 3) (u := node4 n.kind n.ta n.tb (.slice no n.kids.length nc)) (HN.out.sub fun g hg _ => ⟨hg.1, show ¬ g = R4 by omega⟩) (Sg.own_mono (own_single (c := 4) rfl) (by have := B2.out.lt; omega)) al (Nat.le_refl _) (Nat.le_refl _) (by have := B4.out.lt; omega)
  have H0 : Dm c o x p 38 res R4 (.slice (some ⟨R4 + 1, 0, none⟩) 1 1) [n] s1 n no nc (w3.alloc (.cells #[.int .i64 n.kind, .string n.ta, .string n.tb, .slice no n.kids.length nc] tNd)) :=
    ⟨B0.out.on al, B1.out.on al, B2.out.on al, B4.out.on al, (NodeS.below HN.out al).sub fun g hg _ => ⟨hg.1, by omega⟩, BL.out.trans (al.mono BL.out.size), HX, HB4.out, hs1, HQ.out.symm, ⟨by simp, fun _ => rfl⟩, by have := HLen.out; simp; omega⟩
  replace H0 := Lib.hid H0
  clear al HX B0 B1 B2 B4 BL HN HLen HQ hs1 HZ
  go_loopg [5] s1.rest.length (fun q lv wr => ∃ (l : List Nd) (si : St) (m : Nd) (mo : Option Addr) (mc : Nat), q = si.rest.length ∧ Hid (Dm c o x p 38 res R4 lv l si m mo mc wr))
  case atStart => exact ⟨[n], s1, n, no, nc, rfl, H0⟩
  case round =>
    clear H0
    obtain ⟨l, si, m, mo, mc, rfl, HA⟩ := hrel
    obtain ⟨lo, lc, rfl⟩ := HA.out.row.slice
    have B0 := Lib.hid HA.out.b0
    have B1 := Lib.hid HA.out.b1
    have B2 := Lib.hid HA.out.b2
    have B4 := Lib.hid HA.out.b4
    have BL := Lib.hid HA.out.below
    have HM := Lib.hid HA.out.node
    have HR := Lib.hid HA.out.row
    have hssi := HA.out.suf
    have HMore := Lib.hid HA.out.more
    have HLast := Lib.hid HA.out.last
    have hlen := HA.out.len
    have HLe := Lib.hid hlen
    have hl1 : l.length ≤ 10001 := by omega
    clear HA hlen
    obtain ⟨v0, v1, v2, v3⟩ := B0.out.cells
    go_wp2_with fail
    have hK := dkind_any (o := o) (s := si) (h.below BL.out) hssi
    clear v0 v1 v2 v3
    refine hK.mono ?_
    rintro e w5 ⟨rfl, hbw⟩
    replace B0 := Lib.hid (B0.out.on hbw)
    replace B1 := Lib.hid (B1.out.on hbw)
    replace B2 := Lib.hid (B2.out.on hbw)
    replace B4 := Lib.hid (B4.out.on hbw)
    replace HM := Lib.hid (NodeS.below HM.out hbw)
    replace HR := Lib.hid (HR.out.below hbw)
    replace BL := Lib.hid (BL.out.trans (hbw.mono BL.out.size))
    clear hK hbw
    by_cases hk : next si = 38
    · have e38 : (next si == 38) = true := by rw [hk]; rfl
      have hst := stV_tl1 (o := o) hssi (by rw [hk]; decide)
      have hs2 : (tl si).rest <:+ kt c.L := (tl_suf si).trans hssi
      have t1 := st1_own w5 x.heap.size 1 (.int .i64 ((atN c si : Int) + 1))
      have hw := at_wrap h si
      obtain ⟨c0, c1, c2, c3⟩ := B0.out.cells
      obtain ⟨-, u1, -, -⟩ := B0.out.free
      replace B0 := Lib.hid (B0.out.put1 (.int .i64 ((atN c si : Int) + 1)))
      replace B1 := Lib.hid (B1.out.turn t1 (by have := B0.out.lt; omega))
      replace B2 := Lib.hid (B2.out.turn t1 (by have := B0.out.lt; omega))
      replace B4 := Lib.hid (B4.out.turn t1 (by have := HB4.out; omega))
      replace HM := Lib.hid (HM.out.turn t1 (fun g hg _ => by omega) fun g hg _ => hg)
      replace HR := Lib.hid (HR.out.turn t1 fun g hg _ e => show g = R4 by omega)
      replace BL := Lib.hid (BL.out.trans (t1.below BL.out.size fun k hk => by omega))
      obtain ⟨v0, v1, v2, v3⟩ := B0.out.cells
      clear t1
      go_wp2_with fail
      generalize (w5.setCell ⟨x.heap.size, 1, none⟩ (.int .i64 ((atN c si : Int) + 1))) = w6 at *
      clear c0 c1 c2 c3 u1 hw v0 v1 v2 v3
      have hT := hp (tl si) _ (h.below BL.out) hs2
      rw [hst] at hT
      have HLT := Lib.hid (show ∀ g, (Value.slice lo l.length lc).ownBlock = some g → g < w6.heap.size from fun g hg => (HR.out.own_lt hg).2)
      refine hT.mono ?_
      rintro e w7 ⟨v, rfl, hv, hbw⟩
      have hv' : NodeS (fun g => w6.heap.size ≤ g) w7 (p (tl si)).1 v := hv
      clear hT hv hst e38 HM
      generalize hp2 : (p (tl si)).2 = s2 at *
      generalize hp1 : (p (tl si)).1 = nd2 at *
      obtain ⟨mo2, mc2, us, rfl, -⟩ := hv'.open
      have HC := Lib.hid (show x.heap.size + 3 ≤ w6.heap.size ∧ R4 < w6.heap.size ∧ w6.heap.size ≤ w7.heap.size from ⟨by have := B2.out.lt; omega, B4.out.lt, hbw.size⟩)
      have HM := Lib.hid (hv'.sub (S' := fun g => w6.heap.size ≤ g ∧ x.heap.size + 3 ≤ g ∧ g ≠ R4) fun g hg hl => by have := HC.out; omega)
      clear hv'
      replace B0 := Lib.hid (B0.out.on hbw)
      replace B1 := Lib.hid (B1.out.on hbw)
      replace B2 := Lib.hid (B2.out.on hbw)
      replace B4 := Lib.hid (B4.out.on hbw)
      replace HR := Lib.hid (HR.out.below hbw)
      replace BL := Lib.hid (BL.out.trans (hbw.mono BL.out.size))
      clear hbw
      obtain ⟨c0, c1, c2, c3⟩ := B0.out.cells
      obtain ⟨u0, u1, u2, u3⟩ := B0.out.free
      have t1 := st4_own w7 (x.heap.size) (.slice c.ao c.L.length c.cap) (.int .i64 (atN c s2 : Nat)) (.int .i64 (o : Nat)) (.int .i64 (s2.err : Nat))
      have mz := B4.out.turn t1 (by have := HB4.out; omega)
      obtain ⟨m0, m1, m2, m3⟩ := mz.cells
      obtain ⟨n0, n1, n2, n3⟩ := mz.free
      have t2 := st4_own (st4 w7 x.heap.size (.slice c.ao c.L.length c.cap) (.int .i64 (atN c s2 : Nat)) (.int .i64 (o : Nat)) (.int .i64 (s2.err : Nat))) (R4) (.int .i64 nd2.kind) (.string nd2.ta) (.string nd2.tb) (.slice mo2 nd2.kids.length mc2)
      replace B0 := Lib.hid ((B0.out.put (.slice c.ao c.L.length c.cap) (.int .i64 (atN c s2 : Nat)) (.int .i64 (o : Nat)) (.int .i64 (s2.err : Nat))).turn t2 (by have := HB4.out; omega))
      replace B1 := Lib.hid ((B1.out.turn t1 (by have := HB4.out; omega)).turn t2 (by have := HB4.out; omega))
      replace B2 := Lib.hid ((B2.out.turn t1 (by have := HB4.out; omega)).turn t2 (by have := HB4.out; omega))
      replace B4 := Lib.hid (mz.put (.int .i64 nd2.kind) (.string nd2.ta) (.string nd2.tb) (.slice mo2 nd2.kids.length mc2))
      replace HM := Lib.hid ((HM.out.turn t1 (fun g hg _ => by omega) fun g hg _ => hg).turn t2 (fun g hg _ => by omega) fun g hg _ => hg)
      replace HR := Lib.hid ((HR.out.turn t1 fun g hg _ e => show g = R4 by omega).turn t2 fun g hg _ e => show g = R4 by omega)
      replace BL := Lib.hid ((BL.out.trans (t1.below BL.out.size fun k hk => by omega)).trans (t2.below (Nat.le_trans BL.out.size t1.size) fun k hk => by have := HB4.out; omega))
      clear mz t1 t2
      unfold st4 at m0 m1 m2 m3 n0 n1 n2 n3
      unfold st4 at B0 B1 B2 B4 BL HM HR
      obtain ⟨v0, v1, v2, v3⟩ := B4.out.cells
      go_upto_region 6 with fail
      generalize ((((((((w7.setCell ⟨x.heap.size, 0, none⟩ (.slice c.ao c.L.length c.cap)).setCell ⟨x.heap.size, 1, none⟩ (.int .i64 (atN c s2 : Nat))).setCell ⟨x.heap.size, 2, none⟩ (.int .i64 (o : Nat))).setCell ⟨x.heap.size, 3, none⟩ (.int .i64 (s2.err : Nat))).setCell ⟨R4, 0, none⟩ (.int .i64 nd2.kind)).setCell ⟨R4, 1, none⟩ (.string nd2.ta)).setCell ⟨R4, 2, none⟩ (.string nd2.tb)).setCell ⟨R4, 3, none⟩ (.slice mo2 nd2.kids.length mc2)) = w8 at *
      clear c0 c1 c2 c3 u0 u1 u2 u3 m0 m1 m2 m3 n0 n1 n2 n3
      have al : Below w8.heap.size w8 (w8.alloc (.cells #[.int .i64 nd2.kind, .string nd2.ta, .string nd2.tb, .slice mo2 nd2.kids.length mc2] tNd)) := (Below.refl _ _).alloc (Nat.le_refl _) _
      replace B0 := Lib.hid (B0.out.on al)
      replace B1 := Lib.hid (B1.out.on al)
      replace B2 := Lib.hid (B2.out.on al)
      replace B4 := Lib.hid (B4.out.on al)
      replace HM := Lib.hid (NodeS.below HM.out al)
      replace HR := Lib.hid (HR.out.below al)
      replace BL := Lib.hid (BL.out.trans (al.mono BL.out.size))
      have hnew : ((w8.alloc (.cells #[.int .i64 nd2.kind, .string nd2.ta, .string nd2.tb, .slice mo2 nd2.kids.length mc2] tNd))).heap[w8.heap.size]? = some (.cells (node4 nd2.kind nd2.ta nd2.tb (.slice mo2 nd2.kids.length mc2)).cells tNd (0, 0)) := heap_alloc_new w8 _
      have HNew := Lib.hid hnew
      have HW := Lib.hid (show x.heap.size + 3 ≤ ((w8.alloc (.cells #[.int .i64 nd2.kind, .string nd2.ta, .string nd2.tb, .slice mo2 nd2.kids.length mc2] tNd))).heap.size by have := B2.out.lt; omega)
      have HXn := Lib.hid (show ∀ g, ((w8.alloc (.cells #[.int .i64 nd2.kind, .string nd2.ta, .string nd2.tb, .slice mo2 nd2.kids.length mc2] tNd))).heap.size ≤ g → ¬ g = R4 from fun g hg e => by have := B4.out.lt; omega)
      clear al hnew
      obtain ⟨ti, tz, tb, TE, hTb⟩ := elN
      have HO := Lib.hid (And.intro TE hTb)
      clear TE hTb
      go_wp2_with (at_builtin; refine walk_add (E := nodeE) (v := .slice lo l.length lc) (X := fun g => g = R4) (C := w6.heap.size) (u := node4 nd2.kind nd2.ta nd2.tb (.slice mo2 nd2.kids.length mc2)) HO.out.1 HO.out.2 rfl _ _ rfl rfl rfl HR.out HNew.out (HM.out.sub fun g hg _ => ⟨hg.1, hg.2.2⟩) HC.out.1 HLT.out HW.out HXn.out (by omega) ?_)
      intro va y HR2 ht
      have hX : ∀ g, (Value.slice lo l.length lc).ownBlock = some g → x.heap.size + 3 ≤ g ∧ g ≠ R4 := fun g hg => ⟨(HR.out.own_lt hg).1, HR.out.1 g hg⟩
      have hA : Dm c o x p 38 res R4 va (l ++ [nd2]) s2 nd2 mo2 mc2 y := by
        refine ⟨B0.out.turn ht fun e => ?_, B1.out.turn ht fun e => ?_, B2.out.turn ht fun e => ?_, B4.out.turn ht fun e => ?_, HM.out.turn ht (fun g hg _ e => ?_) fun g hg _ => hg.2, BL.out.trans (ht.below BL.out.size fun k hk => ?_), HR2, HB4.out, ?_, ?_, ⟨by simp, fun e => ?_⟩, ?_⟩
        · have := hX _ e; omega
        · have := hX _ e; omega
        · have := hX _ e; omega
        · have := hX _ e; omega
        · have := HLT.out g e; omega
        · have := hX _ hk; omega
        · rw [← hp2]; exact (HF.out.suf _).trans hs2
        · rw [← HMore.out, eachs_on HF.out (by decide) hk, hp1, hp2]
          simp
        · have := List.length_pos_iff.2 HLast.out.1
          rw [List.length_append, List.length_singleton] at e; omega
        · have h1 := HLe.out
          have h2 := tl_len (s := si) (by rw [hk]; decide)
          have h3 := (HF.out.suf (tl si)).length_le
          rw [hp2] at h3
          simp only [List.length_append, List.length_singleton]
          omega
      have HA := Lib.hid hA
      have hdec : s2.rest.length < si.rest.length := by
        have h2 := tl_len (s := si) (by rw [hk]; decide)
        have h3 := (HF.out.suf (tl si)).length_le
        rw [hp2] at h3
        omega
      clear hA hX ht HR2 HR B0 B1 B2 B4 BL HM HO HNew HW HXn HC HLT HMore HLast HLe v0 v1 v2 v3
      go_wp2_with fail
      go_roundg (s2.rest.length)
      case rel => exact ⟨_, _, _, _, _, rfl, HA⟩
      case measure => exact hdec

    · have e38 : (next si == 38) = false := by simpa using hk
      by_cases hl : l.length = 1
      · have HQ := Lib.hid (show (joined 5 res.1, res.2) = (m, si) by rw [← HMore.out, eachs_off hk]; simp only [List.append_nil]; rw [HLast.out.2 hl]; rfl)
        have hl1' : (l.length : Int) = 1 := by omega
        have e1 : ((l.length : Int) == 1) = true := by simp [hl]
        obtain ⟨c0, c1, c2, c3⟩ := B0.out.cells
        go_wp2_with fail
        clear c0 c1 c2 c3 hl1'
        have D0 := Lib.hid (B0.out.on (Below.refl _ _).drew)
        have D1 := Lib.hid (B1.out.on (Below.refl _ _).drew)
        have D2 := Lib.hid (B2.out.on (Below.refl _ _).drew)
        have D4 := Lib.hid (B4.out.on (Below.refl _ _).drew)
        have DL := Lib.hid (BL.out.trans (((Below.refl w5.heap.size w5).drew).mono BL.out.size))
        have DN := Lib.hid ((NodeS.below HM.out (Below.refl _ _).drew).sub (S' := fun g => x.heap.size + 3 ≤ g) fun g hg _ => hg.1)
        clear B0 B1 B2 B4 BL HM HR
        refine Order.region_begin (S := Turns (Two x) w5.drew) (by kernel_rfl) ?_
        generalize w5.drew = w9 at *
        have HX := Lib.hid (show ∀ z, Turns (Two x) w9 z → _ from fun z hz => And.intro (D0.out.turn hz (by omega)).cells (D4.out.turn hz (by have := HB4.out; omega)).cells)
        obtain ⟨d0, d1, d2, d3⟩ := D1.out.cells
        obtain ⟨f0, f1, f2, f3⟩ := D1.out.free
        have hF := fin_nd D1.out D2.out DL.out DN.out (.slice c.ao c.L.length c.cap) (.int .i64 (atN c si : Nat)) (.int .i64 (o : Nat)) (.int .i64 (si.err : Nat)) (.int .i64 m.kind) (.string m.ta) (.string m.tb) (.slice mo m.kids.length mc)
        obtain ⟨m0, m1, m2, m3⟩ := hF.1.cells
        obtain ⟨n0, n1, n2, n3⟩ := hF.1.free
        have HG := Lib.hid (And.intro hF.2.1.cells (And.intro hF.2.2.1.cells (And.intro hF.2.2.2.1 hF.2.2.2.2.1)))
        have HT1 := Lib.hid hF.2.2.2.2.2.1
        have HT2 := Lib.hid hF.2.2.2.2.2.2
        unfold st4 at m0 m1 m2 m3 n0 n1 n2 n3 HT1 HT2 HG
        clear hF
        refine Order.reads_any (idx := [0, 1]) (by kernel_rfl) (Turns.refl _ _) (fun _ _ _ _ _ h => Order.noPanic_put h) 2 _ _ (by decide +kernel) ?_
        simp only [Order.pick, List.getElem?_toArray, List.getElem?_cons_zero, List.getElem?_cons_succ]
        repeat (first
          | (refine Order.reads_off (by rfl) ?_
             simp only [Act.put, List.setIfInBounds_toArray, List.set_cons_zero, List.set_cons_succ])
          | (apply Order.reads_on
             · rfl
             · intro x hx
               first
                 | (go_simp; rfl)
                 | (obtain ⟨⟨i0, i1, i2, i3⟩, i4, i5, i6, i7⟩ := HX.out x hx
                    go_simp; rfl)
             simp only [Act.put, List.setIfInBounds_toArray, List.set_cons_zero, List.set_cons_succ]))
        refine Order.reads_end ?_
        apply Order.acts_any (R := (Turns (Two x))) (fun h k => h.trans k fun _ _ h => h) (i := 2)
        · rfl
        · decide +kernel
        · rfl
        unfold Oper.wp
        go_simp
        refine ⟨HT1.out, ?_⟩
        apply Order.acts_any (R := (Turns (Two x))) (fun h k => h.trans k fun _ _ h => h) (i := 3)
        · rfl
        · decide +kernel
        · rfl
        unfold Oper.wp
        go_simp
        refine ⟨HT2.out, ?_⟩
        refine wpAnyH_done (by decide +kernel) ?_ _
        refine NoPanic.normal ?_
        clear HX m0 m1 m2 m3 n0 n1 n2 n3 d0 d1 d2 d3 f0 f1 f2 f3 HT1 HT2
        go_wp2_with fail
        obtain ⟨⟨g0, g1, g2, g3⟩, ⟨k0, k1, k2, k3⟩, hN, hbb⟩ := HG.out
        refine bodyPost_ret (v := .tuple #[.agg #[.slice c.ao c.L.length c.cap, .int .i64 (atN c si : Nat), .int .i64 (o : Nat), .int .i64 (si.err : Nat)], .agg #[.int .i64 m.kind, .string m.ta, .string m.tb, .slice mo m.kids.length mc]]) (by simp [results, Tryd.results48, go_sem, g0, g1, g2, g3, k0, k1, k2, k3]) rfl ⟨.agg #[.int .i64 m.kind, .string m.ta, .string m.tb, .slice mo m.kids.length mc], ?_, ?_, hbb⟩
        · rw [HQ.out, show stV c o (m, si).2 = stV c o si from rfl]
        · rw [HQ.out]
          exact hN
      · have HQ := Lib.hid (show (joined 5 res.1, res.2) = (.mk 5 none0 none0 l, si) by
          rw [← HMore.out, eachs_off hk]
          simp only [List.append_nil]
          match l, HLast.out.1, hl with
          | [_], _, hl => simp at hl
          | _ :: _ :: _, _, _ => rfl)
        have e1 : ((l.length : Int) == 1) = false := by simp; omega
        have DN := Lib.hid (RowS.node HR.out.rows 5)
        have hF := fin_nd (v := node4 5 none0 none0 (.slice lo l.length lc)) B1.out B2.out BL.out DN.out (.slice c.ao c.L.length c.cap) (.int .i64 (atN c si : Nat)) (.int .i64 (o : Nat)) (.int .i64 (si.err : Nat)) (.int .i64 5) (.string ⟨#[]⟩) (.string ⟨#[]⟩) (.slice lo l.length lc)
        obtain ⟨c0, c1, c2, c3⟩ := B0.out.cells
        obtain ⟨d0, d1, d2, d3⟩ := B1.out.cells
        obtain ⟨f0, f1, f2, f3⟩ := B1.out.free
        obtain ⟨m0, m1, m2, m3⟩ := hF.1.cells
        obtain ⟨n0, n1, n2, n3⟩ := hF.1.free
        have HG := Lib.hid (And.intro hF.2.1.cells (And.intro hF.2.2.1.cells (And.intro hF.2.2.2.1 hF.2.2.2.2.1)))
        unfold st4 at m0 m1 m2 m3 n0 n1 n2 n3 HG
        clear hF DN B0 B1 B2 B4 BL HM HR
        go_wp2_with fail
        obtain ⟨⟨g0, g1, g2, g3⟩, ⟨k0, k1, k2, k3⟩, hN, hbb⟩ := HG.out
        refine bodyPost_ret (v := .tuple #[.agg #[.slice c.ao c.L.length c.cap, .int .i64 (atN c si : Nat), .int .i64 (o : Nat), .int .i64 (si.err : Nat)], .agg #[.int .i64 5, .string ⟨#[]⟩, .string ⟨#[]⟩, .slice lo l.length lc]]) (by simp [results, Tryd.results48, go_sem, g0, g1, g2, g3, k0, k1, k2, k3]) rfl ⟨.agg #[.int .i64 5, .string ⟨#[]⟩, .string ⟨#[]⟩, .slice lo l.length lc], ?_, ?_, hbb⟩
        · rw [HQ.out, show stV c o (_, si).2 = stV c o si from rfl]
        · rw [HQ.out]
          exact hN

set_option maxHeartbeats 8000000 in
set_option maxRecDepth 100000 in
theorem dunion_any {c : DCtx} {o : Nat} {p : P} (hfp : Fine p) (hp : DPart nodeE c o 48 p) {s : St} {x : World} (h : DEnv c x) (hs : s.rest <:+ kt c.L) :
    Calls Tryd.prog 22 #[stV c o s] x (DOut nodeE c o (joined 4 (list p 124 s).1, (list p 124 s).2) x) := by
  have HQ := Lib.hid (show list p 124 s = ((p s).1 :: (eachs p 124 (p s).2).1, (eachs p 124 (p s).2).2) from rfl)
  generalize hres : list p 124 s = res at *
  have HF := Lib.hid hfp
  have HLen := Lib.hid (show (p s).2.rest.length ≤ 10000 by have := (hfp.suf s).length_le; have := dlen hs; have := h.len; omega)
  have hD := Da.start c x (atN c s) o s.err
  obtain ⟨c0, c1, c2, c3⟩ := hD.box.cells
  have hAt := hp s _ (h.below hD.below) hs
  have B0 := Lib.hid (show C4 x.heap.size tSt _ _ _ _ _ from hD.box)
  have B1 := Lib.hid (show C4 (x.heap.size + 1) tSt _ _ _ _ _ from hD.res)
  have B2 := Lib.hid (show C4 (x.heap.size + 1 + 1) tNd _ _ _ _ _ from hD.nod)
  have BL := Lib.hid hD.below
  clear hD
  show Calls _ _ #[.agg #[.slice c.ao c.L.length c.cap, .int .i64 (atN c s : Nat), .int .i64 (o : Nat), .int .i64 (s.err : Nat)]] _ _
  go_enter Tryd.func22, Tryd.ntmps22
  go_wp2_with fail
  generalize ((x.alloc (.cells #[.slice c.ao c.L.length c.cap, .int .i64 (atN c s : Nat), .int .i64 (o : Nat), .int .i64 (s.err : Nat)] tSt)).alloc (.cells #[.slice none 0 0, .int .i64 0, .int .i64 0, .int .i64 0] tSt)).alloc (.cells #[.int .i64 0, .string ⟨#[]⟩, .string ⟨#[]⟩, .slice none 0 0] tNd) = w1 at *
  refine hAt.mono ?_
  rintro e w2 ⟨v, rfl, hv, hbw⟩
  have hs1 : (p s).2.rest <:+ kt c.L := (hfp.suf s).trans hs
  have hv' : NodeS (fun g => w1.heap.size ≤ g) w2 (p s).1 v := hv
  clear hAt hv c0 c1 c2 c3 hres
  generalize (p s).2 = s1 at *
  generalize (p s).1 = n at *
  obtain ⟨no, nc, us, rfl, -⟩ := hv'.open
  have HN := Lib.hid (hv'.turn (S' := fun g => x.heap.size + 3 ≤ g ∧ g < w2.heap.size) (Turns.refl (fun _ => False) w2) (fun _ _ _ h => h) fun g hg hl => by have := B2.out.lt; omega)
  clear hv'
  replace B0 := Lib.hid (B0.out.on hbw)
  replace B1 := Lib.hid (B1.out.on hbw)
  replace B2 := Lib.hid (B2.out.on hbw)
  replace BL := Lib.hid (BL.out.trans (hbw.mono BL.out.size))
  clear hbw
  have HW2 : x.heap.size + 3 ≤ w2.heap.size := by have := B2.out.lt; omega
  have al : Below w2.heap.size w2 (w2.alloc (.cells #[.int .i64 0, .string ⟨#[]⟩, .string ⟨#[]⟩, .slice none 0 0] tNd)) := (Below.refl _ _).alloc (Nat.le_refl _) _
  have nz : C4 w2.heap.size tNd (.int .i64 0) (.string ⟨#[]⟩) (.string ⟨#[]⟩) (.slice none 0 0) (w2.alloc (.cells #[.int .i64 0, .string ⟨#[]⟩, .string ⟨#[]⟩, .slice none 0 0] tNd)) := C4.new _ _ _ _ _ _
  have b0 := B0.out.on al
  obtain ⟨c0, c1, c2, c3⟩ := b0.cells
  obtain ⟨u0, u1, u2, u3⟩ := b0.free
  have t1 := st4_own (w2.alloc (.cells #[.int .i64 0, .string ⟨#[]⟩, .string ⟨#[]⟩, .slice none 0 0] tNd)) x.heap.size (.slice c.ao c.L.length c.cap) (.int .i64 (atN c s1 : Nat)) (.int .i64 (o : Nat)) (.int .i64 (s1.err : Nat))
  have mz := nz.turn t1 (by have := B0.out.lt; have := B2.out.lt; omega)
  obtain ⟨m0, m1, m2, m3⟩ := mz.cells
  obtain ⟨n0, n1, n2, n3⟩ := mz.free
  have t2 := st4_own (st4 (w2.alloc (.cells #[.int .i64 0, .string ⟨#[]⟩, .string ⟨#[]⟩, .slice none 0 0] tNd)) x.heap.size (.slice c.ao c.L.length c.cap) (.int .i64 (atN c s1 : Nat)) (.int .i64 (o : Nat)) (.int .i64 (s1.err : Nat))) w2.heap.size (.int .i64 n.kind) (.string n.ta) (.string n.tb) (.slice no n.kids.length nc)
  have B0n := Lib.hid ((b0.put (.slice c.ao c.L.length c.cap) (.int .i64 (atN c s1 : Nat)) (.int .i64 (o : Nat)) (.int .i64 (s1.err : Nat))).turn t2 (by have := B0.out.lt; have := B2.out.lt; omega))
  have B1n := Lib.hid (((B1.out.on al).turn t1 (by have := B0.out.lt; omega)).turn t2 (by have := B1.out.lt; omega))
  have B2n := Lib.hid (((B2.out.on al).turn t1 (by have := B0.out.lt; omega)).turn t2 (by have := B2.out.lt; omega))
  have B4n := Lib.hid (mz.put (.int .i64 n.kind) (.string n.ta) (.string n.tb) (.slice no n.kids.length nc))
  have BLn := Lib.hid (((BL.out.trans (al.mono BL.out.size)).trans (t1.below (Nat.le_trans BL.out.size al.size) fun k hk => by have := BL.out.size; omega)).trans (t2.below (Nat.le_trans (Nat.le_trans BL.out.size al.size) t1.size) fun k hk => by have := BL.out.size; omega))
  have HZ := Lib.hid (show (st4 (st4 (w2.alloc (.cells #[.int .i64 0, .string ⟨#[]⟩, .string ⟨#[]⟩, .slice none 0 0] tNd)) x.heap.size (.slice c.ao c.L.length c.cap) (.int .i64 (atN c s1 : Nat)) (.int .i64 (o : Nat)) (.int .i64 (s1.err : Nat))) w2.heap.size (.int .i64 n.kind) (.string n.ta) (.string n.tb) (.slice no n.kids.length nc)).heap.size = w2.heap.size + 1 by rw [st4_size, st4_size]; simp)
  have TT := Lib.hid (show Turns (fun g => g = x.heap.size ∨ g = w2.heap.size) w2 (st4 (st4 (w2.alloc (.cells #[.int .i64 0, .string ⟨#[]⟩, .string ⟨#[]⟩, .slice none 0 0] tNd)) x.heap.size (.slice c.ao c.L.length c.cap) (.int .i64 (atN c s1 : Nat)) (.int .i64 (o : Nat)) (.int .i64 (s1.err : Nat))) w2.heap.size (.int .i64 n.kind) (.string n.ta) (.string n.tb) (.slice no n.kids.length nc)) from ((Turns.of_below (F := fun g => g = x.heap.size ∨ g = w2.heap.size) al).trans (t1.mono (G := fun g => g = x.heap.size ∨ g = w2.heap.size) fun _ _ h => .inl h) fun _ _ h => h).trans (t2.mono (G := fun g => g = x.heap.size ∨ g = w2.heap.size) fun _ _ h => .inr h) fun _ _ h => h)
  replace HN := Lib.hid (HN.out.turn TT.out (fun g hg _ => by have := B0.out.lt; have := B2.out.lt; omega) fun g hg _ => hg)
  clear mz nz b0 t1 t2 al BL TT B0 B1 B2
  have B0 := B0n
  have B1 := B1n
  have B2 := B2n
  have B4 := B4n
  have BL := BLn
  clear BLn B0n B1n B2n B4n
  unfold st4 at m0 m1 m2 m3 n0 n1 n2 n3
  unfold st4 at B0 B1 B2 B4 BL HN HZ
  obtain ⟨v0, v1, v2, v3⟩ := B4.out.cells
  go_wp2_with fail
  generalize (((((((((w2.alloc (.cells #[.int .i64 0, .string ⟨#[]⟩, .string ⟨#[]⟩, .slice none 0 0] tNd)).setCell ⟨x.heap.size, 0, none⟩ (.slice c.ao c.L.length c.cap)).setCell ⟨x.heap.size, 1, none⟩ (.int .i64 (atN c s1 : Nat))).setCell ⟨x.heap.size, 2, none⟩ (.int .i64 (o : Nat))).setCell ⟨x.heap.size, 3, none⟩ (.int .i64 (s1.err : Nat))).setCell ⟨w2.heap.size, 0, none⟩ (.int .i64 n.kind)).setCell ⟨w2.heap.size, 1, none⟩ (.string n.ta)).setCell ⟨w2.heap.size, 2, none⟩ (.string n.tb)).setCell ⟨w2.heap.size, 3, none⟩ (.slice no n.kids.length nc)) = w3 at *
  clear c0 c1 c2 c3 u0 u1 u2 u3 m0 m1 m2 m3 n0 n1 n2 n3
  have HB4 := Lib.hid (show x.heap.size + 3 ≤ w2.heap.size from HW2)
  clear HW2
  clear v0 v1 v2 v3
  generalize w2.heap.size = R4 at *
  have al : Below w3.heap.size w3 (w3.alloc (.cells #[.int .i64 n.kind, .string n.ta, .string n.tb, .slice no n.kids.length nc] tNd)) := (Below.refl _ _).alloc (Nat.le_refl _) _
  have HX : RowX nodeE (fun g => g = R4) (w3.alloc (.cells #[.int .i64 n.kind, .string n.ta, .string n.tb, .slice no n.kids.length nc] tNd)) (x.heap.size + 3) tNd (.slice (some ⟨R4 + 1, 0, none⟩) 1 1) [n] := by
    rw [← HZ.out]
    exact RowX.one (C := x.heap.size + 3) (u := node4 n.kind n.ta n.tb (.slice no n.kids.length nc)) (HN.out.sub fun g hg _ => ⟨hg.1, show ¬ g = R4 by omega⟩) (Sg.own_mono (own_single (c := 4) rfl) (by have := B2.out.lt; omega)) al (Nat.le_refl _) (Nat.le_refl _) (by have := B4.out.lt; omega)
  have H0 : Dm c o x p 124 res R4 (.slice (some ⟨R4 + 1, 0, none⟩) 1 1) [n] s1 n no nc (w3.alloc (.cells #[.int .i64 n.kind, .string n.ta, .string n.tb, .slice no n.kids.length nc] tNd)) :=
    ⟨B0.out.on al, B1.out.on al, B2.out.on al, B4.out.on al, (NodeS.below HN.out al).sub fun g hg _ => ⟨hg.1, by omega⟩, BL.out.trans (al.mono BL.out.size), HX, HB4.out, hs1, HQ.out.symm, ⟨by simp, fun _ => rfl⟩, by have := HLen.out; simp; omega⟩
  replace H0 := Lib.hid H0
  clear al HX B0 B1 B2 B4 BL HN HLen HQ hs1 HZ
  go_loopg [5] s1.rest.length (fun q lv wr => ∃ (l : List Nd) (si : St) (m : Nd) (mo : Option Addr) (mc : Nat), q = si.rest.length ∧ Hid (Dm c o x p 124 res R4 lv l si m mo mc wr))
  case atStart => exact ⟨[n], s1, n, no, nc, rfl, H0⟩
  case round =>
    clear H0
    obtain ⟨l, si, m, mo, mc, rfl, HA⟩ := hrel
    obtain ⟨lo, lc, rfl⟩ := HA.out.row.slice
    have B0 := Lib.hid HA.out.b0
    have B1 := Lib.hid HA.out.b1
    have B2 := Lib.hid HA.out.b2
    have B4 := Lib.hid HA.out.b4
    have BL := Lib.hid HA.out.below
    have HM := Lib.hid HA.out.node
    have HR := Lib.hid HA.out.row
    have hssi := HA.out.suf
    have HMore := Lib.hid HA.out.more
    have HLast := Lib.hid HA.out.last
    have hlen := HA.out.len
    have HLe := Lib.hid hlen
    have hl1 : l.length ≤ 10001 := by omega
    clear HA hlen
    obtain ⟨v0, v1, v2, v3⟩ := B0.out.cells
    go_wp2_with fail
    have hK := dkind_any (o := o) (s := si) (h.below BL.out) hssi
    clear v0 v1 v2 v3
    refine hK.mono ?_
    rintro e w5 ⟨rfl, hbw⟩
    replace B0 := Lib.hid (B0.out.on hbw)
    replace B1 := Lib.hid (B1.out.on hbw)
    replace B2 := Lib.hid (B2.out.on hbw)
    replace B4 := Lib.hid (B4.out.on hbw)
    replace HM := Lib.hid (NodeS.below HM.out hbw)
    replace HR := Lib.hid (HR.out.below hbw)
    replace BL := Lib.hid (BL.out.trans (hbw.mono BL.out.size))
    clear hK hbw
    by_cases hk : next si = 124
    · have e38 : (next si == 124) = true := by rw [hk]; rfl
      have hst := stV_tl1 (o := o) hssi (by rw [hk]; decide)
      have hs2 : (tl si).rest <:+ kt c.L := (tl_suf si).trans hssi
      have t1 := st1_own w5 x.heap.size 1 (.int .i64 ((atN c si : Int) + 1))
      have hw := at_wrap h si
      obtain ⟨c0, c1, c2, c3⟩ := B0.out.cells
      obtain ⟨-, u1, -, -⟩ := B0.out.free
      replace B0 := Lib.hid (B0.out.put1 (.int .i64 ((atN c si : Int) + 1)))
      replace B1 := Lib.hid (B1.out.turn t1 (by have := B0.out.lt; omega))
      replace B2 := Lib.hid (B2.out.turn t1 (by have := B0.out.lt; omega))
      replace B4 := Lib.hid (B4.out.turn t1 (by have := HB4.out; omega))
      replace HM := Lib.hid (HM.out.turn t1 (fun g hg _ => by omega) fun g hg _ => hg)
      replace HR := Lib.hid (HR.out.turn t1 fun g hg _ e => show g = R4 by omega)
      replace BL := Lib.hid (BL.out.trans (t1.below BL.out.size fun k hk => by omega))
      obtain ⟨v0, v1, v2, v3⟩ := B0.out.cells
      clear t1
      go_wp2_with fail
      generalize (w5.setCell ⟨x.heap.size, 1, none⟩ (.int .i64 ((atN c si : Int) + 1))) = w6 at *
      clear c0 c1 c2 c3 u1 hw v0 v1 v2 v3
      have hT := hp (tl si) _ (h.below BL.out) hs2
      rw [hst] at hT
      have HLT := Lib.hid (show ∀ g, (Value.slice lo l.length lc).ownBlock = some g → g < w6.heap.size from fun g hg => (HR.out.own_lt hg).2)
      refine hT.mono ?_
      rintro e w7 ⟨v, rfl, hv, hbw⟩
      have hv' : NodeS (fun g => w6.heap.size ≤ g) w7 (p (tl si)).1 v := hv
      clear hT hv hst e38 HM
      generalize hp2 : (p (tl si)).2 = s2 at *
      generalize hp1 : (p (tl si)).1 = nd2 at *
      obtain ⟨mo2, mc2, us, rfl, -⟩ := hv'.open
      have HC := Lib.hid (show x.heap.size + 3 ≤ w6.heap.size ∧ R4 < w6.heap.size ∧ w6.heap.size ≤ w7.heap.size from ⟨by have := B2.out.lt; omega, B4.out.lt, hbw.size⟩)
      have HM := Lib.hid (hv'.sub (S' := fun g => w6.heap.size ≤ g ∧ x.heap.size + 3 ≤ g ∧ g ≠ R4) fun g hg hl => by have := HC.out; omega)
      clear hv'
      replace B0 := Lib.hid (B0.out.on hbw)
      replace B1 := Lib.hid (B1.out.on hbw)
      replace B2 := Lib.hid (B2.out.on hbw)
      replace B4 := Lib.hid (B4.out.on hbw)
      replace HR := Lib.hid (HR.out.below hbw)
      replace BL := Lib.hid (BL.out.trans (hbw.mono BL.out.size))
      clear hbw
      obtain ⟨c0, c1, c2, c3⟩ := B0.out.cells
      obtain ⟨u0, u1, u2, u3⟩ := B0.out.free
      have t1 := st4_own w7 (x.heap.size) (.slice c.ao c.L.length c.cap) (.int .i64 (atN c s2 : Nat)) (.int .i64 (o : Nat)) (.int .i64 (s2.err : Nat))
      have mz := B4.out.turn t1 (by have := HB4.out; omega)
      obtain ⟨m0, m1, m2, m3⟩ := mz.cells
      obtain ⟨n0, n1, n2, n3⟩ := mz.free
      have t2 := st4_own (st4 w7 x.heap.size (.slice c.ao c.L.length c.cap) (.int .i64 (atN c s2 : Nat)) (.int .i64 (o : Nat)) (.int .i64 (s2.err : Nat))) (R4) (.int .i64 nd2.kind) (.string nd2.ta) (.string nd2.tb) (.slice mo2 nd2.kids.length mc2)
      replace B0 := Lib.hid ((B0.out.put (.slice c.ao c.L.length c.cap) (.int .i64 (atN c s2 : Nat)) (.int .i64 (o : Nat)) (.int .i64 (s2.err : Nat))).turn t2 (by have := HB4.out; omega))
      replace B1 := Lib.hid ((B1.out.turn t1 (by have := HB4.out; omega)).turn t2 (by have := HB4.out; omega))
      replace B2 := Lib.hid ((B2.out.turn t1 (by have := HB4.out; omega)).turn t2 (by have := HB4.out; omega))
      replace B4 := Lib.hid (mz.put (.int .i64 nd2.kind) (.string nd2.ta) (.string nd2.tb) (.slice mo2 nd2.kids.length mc2))
      replace HM := Lib.hid ((HM.out.turn t1 (fun g hg _ => by omega) fun g hg _ => hg).turn t2 (fun g hg _ => by omega) fun g hg _ => hg)
      replace HR := Lib.hid ((HR.out.turn t1 fun g hg _ e => show g = R4 by omega).turn t2 fun g hg _ e => show g = R4 by omega)
      replace BL := Lib.hid ((BL.out.trans (t1.below BL.out.size fun k hk => by omega)).trans (t2.below (Nat.le_trans BL.out.size t1.size) fun k hk => by have := HB4.out; omega))
      clear mz t1 t2
      unfold st4 at m0 m1 m2 m3 n0 n1 n2 n3
      unfold st4 at B0 B1 B2 B4 BL HM HR
      obtain ⟨v0, v1, v2, v3⟩ := B4.out.cells
      go_upto_region 6 with fail
      generalize ((((((((w7.setCell ⟨x.heap.size, 0, none⟩ (.slice c.ao c.L.length c.cap)).setCell ⟨x.heap.size, 1, none⟩ (.int .i64 (atN c s2 : Nat))).setCell ⟨x.heap.size, 2, none⟩ (.int .i64 (o : Nat))).setCell ⟨x.heap.size, 3, none⟩ (.int .i64 (s2.err : Nat))).setCell ⟨R4, 0, none⟩ (.int .i64 nd2.kind)).setCell ⟨R4, 1, none⟩ (.string nd2.ta)).setCell ⟨R4, 2, none⟩ (.string nd2.tb)).setCell ⟨R4, 3, none⟩ (.slice mo2 nd2.kids.length mc2)) = w8 at *
      clear c0 c1 c2 c3 u0 u1 u2 u3 m0 m1 m2 m3 n0 n1 n2 n3
      have al : Below w8.heap.size w8 (w8.alloc (.cells #[.int .i64 nd2.kind, .string nd2.ta, .string nd2.tb, .slice mo2 nd2.kids.length mc2] tNd)) := (Below.refl _ _).alloc (Nat.le_refl _) _
      replace B0 := Lib.hid (B0.out.on al)
      replace B1 := Lib.hid (B1.out.on al)
      replace B2 := Lib.hid (B2.out.on al)
      replace B4 := Lib.hid (B4.out.on al)
      replace HM := Lib.hid (NodeS.below HM.out al)
      replace HR := Lib.hid (HR.out.below al)
      replace BL := Lib.hid (BL.out.trans (al.mono BL.out.size))
      have hnew : ((w8.alloc (.cells #[.int .i64 nd2.kind, .string nd2.ta, .string nd2.tb, .slice mo2 nd2.kids.length mc2] tNd))).heap[w8.heap.size]? = some (.cells (node4 nd2.kind nd2.ta nd2.tb (.slice mo2 nd2.kids.length mc2)).cells tNd (0, 0)) := heap_alloc_new w8 _
      have HNew := Lib.hid hnew
      have HW := Lib.hid (show x.heap.size + 3 ≤ ((w8.alloc (.cells #[.int .i64 nd2.kind, .string nd2.ta, .string nd2.tb, .slice mo2 nd2.kids.length mc2] tNd))).heap.size by have := B2.out.lt; omega)
      have HXn := Lib.hid (show ∀ g, ((w8.alloc (.cells #[.int .i64 nd2.kind, .string nd2.ta, .string nd2.tb, .slice mo2 nd2.kids.length mc2] tNd))).heap.size ≤ g → ¬ g = R4 from fun g hg e => by have := B4.out.lt; omega)
      clear al hnew
      obtain ⟨ti, tz, tb, TE, hTb⟩ := elN
      have HO := Lib.hid (And.intro TE hTb)
      clear TE hTb
      go_wp2_with (at_builtin; refine walk_add (E := nodeE) (v := .slice lo l.length lc) (X := fun g => g = R4) (C := w6.heap.size) (u := node4 nd2.kind nd2.ta nd2.tb (.slice mo2 nd2.kids.length mc2)) HO.out.1 HO.out.2 rfl _ _ rfl rfl rfl HR.out HNew.out (HM.out.sub fun g hg _ => ⟨hg.1, hg.2.2⟩) HC.out.1 HLT.out HW.out HXn.out (by omega) ?_)
      intro va y HR2 ht
      have hX : ∀ g, (Value.slice lo l.length lc).ownBlock = some g → x.heap.size + 3 ≤ g ∧ g ≠ R4 := fun g hg => ⟨(HR.out.own_lt hg).1, HR.out.1 g hg⟩
      have hA : Dm c o x p 124 res R4 va (l ++ [nd2]) s2 nd2 mo2 mc2 y := by
        refine ⟨B0.out.turn ht fun e => ?_, B1.out.turn ht fun e => ?_, B2.out.turn ht fun e => ?_, B4.out.turn ht fun e => ?_, HM.out.turn ht (fun g hg _ e => ?_) fun g hg _ => hg.2, BL.out.trans (ht.below BL.out.size fun k hk => ?_), HR2, HB4.out, ?_, ?_, ⟨by simp, fun e => ?_⟩, ?_⟩
        · have := hX _ e; omega
        · have := hX _ e; omega
        · have := hX _ e; omega
        · have := hX _ e; omega
        · have := HLT.out g e; omega
        · have := hX _ hk; omega
        · rw [← hp2]; exact (HF.out.suf _).trans hs2
        · rw [← HMore.out, eachs_on HF.out (by decide) hk, hp1, hp2]
          simp
        · have := List.length_pos_iff.2 HLast.out.1
          rw [List.length_append, List.length_singleton] at e; omega
        · have h1 := HLe.out
          have h2 := tl_len (s := si) (by rw [hk]; decide)
          have h3 := (HF.out.suf (tl si)).length_le
          rw [hp2] at h3
          simp only [List.length_append, List.length_singleton]
          omega
      have HA := Lib.hid hA
      have hdec : s2.rest.length < si.rest.length := by
        have h2 := tl_len (s := si) (by rw [hk]; decide)
        have h3 := (HF.out.suf (tl si)).length_le
        rw [hp2] at h3
        omega
      clear hA hX ht HR2 HR B0 B1 B2 B4 BL HM HO HNew HW HXn HC HLT HMore HLast HLe v0 v1 v2 v3
      go_wp2_with fail
      go_roundg (s2.rest.length)
      case rel => exact ⟨_, _, _, _, _, rfl, HA⟩
      case measure => exact hdec

    · have e38 : (next si == 124) = false := by simpa using hk
      by_cases hl : l.length = 1
      · have HQ := Lib.hid (show (joined 4 res.1, res.2) = (m, si) by rw [← HMore.out, eachs_off hk]; simp only [List.append_nil]; rw [HLast.out.2 hl]; rfl)
        have hl1' : (l.length : Int) = 1 := by omega
        have e1 : ((l.length : Int) == 1) = true := by simp [hl]
        obtain ⟨c0, c1, c2, c3⟩ := B0.out.cells
        go_wp2_with fail
        clear c0 c1 c2 c3 hl1'
        have D0 := Lib.hid (B0.out.on (Below.refl _ _).drew)
        have D1 := Lib.hid (B1.out.on (Below.refl _ _).drew)
        have D2 := Lib.hid (B2.out.on (Below.refl _ _).drew)
        have D4 := Lib.hid (B4.out.on (Below.refl _ _).drew)
        have DL := Lib.hid (BL.out.trans (((Below.refl w5.heap.size w5).drew).mono BL.out.size))
        have DN := Lib.hid ((NodeS.below HM.out (Below.refl _ _).drew).sub (S' := fun g => x.heap.size + 3 ≤ g) fun g hg _ => hg.1)
        clear B0 B1 B2 B4 BL HM HR
        refine Order.region_begin (S := Turns (Two x) w5.drew) (by kernel_rfl) ?_
        generalize w5.drew = w9 at *
        have HX := Lib.hid (show ∀ z, Turns (Two x) w9 z → _ from fun z hz => And.intro (D0.out.turn hz (by omega)).cells (D4.out.turn hz (by have := HB4.out; omega)).cells)
        obtain ⟨d0, d1, d2, d3⟩ := D1.out.cells
        obtain ⟨f0, f1, f2, f3⟩ := D1.out.free
        have hF := fin_nd D1.out D2.out DL.out DN.out (.slice c.ao c.L.length c.cap) (.int .i64 (atN c si : Nat)) (.int .i64 (o : Nat)) (.int .i64 (si.err : Nat)) (.int .i64 m.kind) (.string m.ta) (.string m.tb) (.slice mo m.kids.length mc)
        obtain ⟨m0, m1, m2, m3⟩ := hF.1.cells
        obtain ⟨n0, n1, n2, n3⟩ := hF.1.free
        have HG := Lib.hid (And.intro hF.2.1.cells (And.intro hF.2.2.1.cells (And.intro hF.2.2.2.1 hF.2.2.2.2.1)))
        have HT1 := Lib.hid hF.2.2.2.2.2.1
        have HT2 := Lib.hid hF.2.2.2.2.2.2
        unfold st4 at m0 m1 m2 m3 n0 n1 n2 n3 HT1 HT2 HG
        clear hF
        refine Order.reads_any (idx := [0, 1]) (by kernel_rfl) (Turns.refl _ _) (fun _ _ _ _ _ h => Order.noPanic_put h) 2 _ _ (by decide +kernel) ?_
        simp only [Order.pick, List.getElem?_toArray, List.getElem?_cons_zero, List.getElem?_cons_succ]
        repeat (first
          | (refine Order.reads_off (by rfl) ?_
             simp only [Act.put, List.setIfInBounds_toArray, List.set_cons_zero, List.set_cons_succ])
          | (apply Order.reads_on
             · rfl
             · intro x hx
               first
                 | (go_simp; rfl)
                 | (obtain ⟨⟨i0, i1, i2, i3⟩, i4, i5, i6, i7⟩ := HX.out x hx
                    go_simp; rfl)
             simp only [Act.put, List.setIfInBounds_toArray, List.set_cons_zero, List.set_cons_succ]))
        refine Order.reads_end ?_
        apply Order.acts_any (R := (Turns (Two x))) (fun h k => h.trans k fun _ _ h => h) (i := 2)
        · rfl
        · decide +kernel
        · rfl
        unfold Oper.wp
        go_simp
        refine ⟨HT1.out, ?_⟩
        apply Order.acts_any (R := (Turns (Two x))) (fun h k => h.trans k fun _ _ h => h) (i := 3)
        · rfl
        · decide +kernel
        · rfl
        unfold Oper.wp
        go_simp
        refine ⟨HT2.out, ?_⟩
        refine wpAnyH_done (by decide +kernel) ?_ _
        refine NoPanic.normal ?_
        clear HX m0 m1 m2 m3 n0 n1 n2 n3 d0 d1 d2 d3 f0 f1 f2 f3 HT1 HT2
        go_wp2_with fail
        obtain ⟨⟨g0, g1, g2, g3⟩, ⟨k0, k1, k2, k3⟩, hN, hbb⟩ := HG.out
        refine bodyPost_ret (v := .tuple #[.agg #[.slice c.ao c.L.length c.cap, .int .i64 (atN c si : Nat), .int .i64 (o : Nat), .int .i64 (si.err : Nat)], .agg #[.int .i64 m.kind, .string m.ta, .string m.tb, .slice mo m.kids.length mc]]) (by simp [results, Tryd.results22, go_sem, g0, g1, g2, g3, k0, k1, k2, k3]) rfl ⟨.agg #[.int .i64 m.kind, .string m.ta, .string m.tb, .slice mo m.kids.length mc], ?_, ?_, hbb⟩
        · rw [HQ.out, show stV c o (m, si).2 = stV c o si from rfl]
        · rw [HQ.out]
          exact hN
      · have HQ := Lib.hid (show (joined 4 res.1, res.2) = (.mk 4 none0 none0 l, si) by
          rw [← HMore.out, eachs_off hk]
          simp only [List.append_nil]
          match l, HLast.out.1, hl with
          | [_], _, hl => simp at hl
          | _ :: _ :: _, _, _ => rfl)
        have e1 : ((l.length : Int) == 1) = false := by simp; omega
        have DN := Lib.hid (RowS.node HR.out.rows 4)
        have hF := fin_nd (v := node4 4 none0 none0 (.slice lo l.length lc)) B1.out B2.out BL.out DN.out (.slice c.ao c.L.length c.cap) (.int .i64 (atN c si : Nat)) (.int .i64 (o : Nat)) (.int .i64 (si.err : Nat)) (.int .i64 4) (.string ⟨#[]⟩) (.string ⟨#[]⟩) (.slice lo l.length lc)
        obtain ⟨c0, c1, c2, c3⟩ := B0.out.cells
        obtain ⟨d0, d1, d2, d3⟩ := B1.out.cells
        obtain ⟨f0, f1, f2, f3⟩ := B1.out.free
        obtain ⟨m0, m1, m2, m3⟩ := hF.1.cells
        obtain ⟨n0, n1, n2, n3⟩ := hF.1.free
        have HG := Lib.hid (And.intro hF.2.1.cells (And.intro hF.2.2.1.cells (And.intro hF.2.2.2.1 hF.2.2.2.2.1)))
        unfold st4 at m0 m1 m2 m3 n0 n1 n2 n3 HG
        clear hF DN B0 B1 B2 B4 BL HM HR
        go_wp2_with fail
        obtain ⟨⟨g0, g1, g2, g3⟩, ⟨k0, k1, k2, k3⟩, hN, hbb⟩ := HG.out
        refine bodyPost_ret (v := .tuple #[.agg #[.slice c.ao c.L.length c.cap, .int .i64 (atN c si : Nat), .int .i64 (o : Nat), .int .i64 (si.err : Nat)], .agg #[.int .i64 4, .string ⟨#[]⟩, .string ⟨#[]⟩, .slice lo l.length lc]]) (by simp [results, Tryd.results22, go_sem, g0, g1, g2, g3, k0, k1, k2, k3]) rfl ⟨.agg #[.int .i64 4, .string ⟨#[]⟩, .string ⟨#[]⟩, .slice lo l.length lc], ?_, ?_, hbb⟩
        · rw [HQ.out, show stV c o (_, si).2 = stV c o si from rfl]
        · rw [HQ.out]
          exact hN

end Gr
end Go.Proofs.YtbphmaoomnocmaaDoor
