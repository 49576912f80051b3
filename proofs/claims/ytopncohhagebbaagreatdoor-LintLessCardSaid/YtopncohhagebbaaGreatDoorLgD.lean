/-
  Layer 9's program: whether a relation hangs on itself by a way on which there is an odd step.
  Layer 9's program: strata that rise till none does.
  Layer 9's program: all relations with their strata; a spot's copy.
  Layer 9's program: a configuration is laid: its relations in a row, with their expressions, and the map of their places.
-/
import Derived.Test.YtopncohhagebbaaGreatDoorLgC
import Derived.Deep.LoopGhost
import Derived.Test.YtopncohhagebbaaGreatDoorLgF
import Derived.Test.YtopncohhagebbaaGreatDoorLgK
import Derived.Test.YtopncohhagebbaaGreatDoorLgB
import Derived.Test.YtopncohhagebbaaGreatDoorTrBuildB
namespace Go.Proofs.YtopncohhagebbaaGreatDoor
open Go.RowKit
namespace Ly
open Tr (own_open own_slice own_below own_turn own_cut IsElem walk_rows)
open Gr (new_cells box1 box2)
open Knot (Turns NewRow)
open Lt (Stp Web Srch Look Pth step pairs_le)

abbrev tStds : TypeId := 125
def StdRow (B : Nat) (x : World) (v : Value) (l : List Stp) : Prop := x.ownsRow B tStand 2 v l.length (cellsP l)
theorem elemSd : Tryz.prog.underlying tStds = some (.slice (Tryz.prog.elem tStds)) := by kernel_rfl
theorem sizeSd : ∀ w, (sizeOf (Tryz.prog.elem tStds)).run Tryz.prog w = .ok 2 w := fun w => by kernel_rfl
set_option maxRecDepth 100000 in
theorem stds_elem : ∃ i z b, IsElem Tryz.prog tStds tStand i z 2 b ∧ b ≤ 100 := by
  refine ⟨_, _, _, ⟨by kernel_rfl, rfl, rfl, by kernel_rfl, rfl, by kernel_rfl, by omega⟩, ?_⟩
  exact of_decide_eq_true (by kernel_rfl)
abbrev stdV (s : Stp) : Value := .agg #[.int .i64 (s.1 : Int), .bool s.2]
theorem stdV_inj {a b : Stp} (h : stdV a = stdV b) : a = b := by
  obtain ⟨a1, a2⟩ := a
  obtain ⟨b1, b2⟩ := b
  simp [stdV] at h
  obtain ⟨h1, h2⟩ := h
  rw [h2, show a1 = b1 by omega]
theorem one_std {w : World} {B : Nat} (h : B ≤ w.heap.size) (s : Stp) : StdRow B (w.alloc (.cells #[.int .i64 (s.1 : Int), .bool s.2] tStand)) (.slice (some ⟨w.heap.size, 0, none⟩) 1 1) [s] :=
  ⟨rfl, .inr ⟨w.heap.size, 1, #[.int .i64 (s.1 : Int), .bool s.2], rfl, h, heap_alloc_new w _, Nat.le_refl _, by decide, rfl, rfl⟩⟩
theorem std_last {B : Nat} {x : World} {v : Value} {R : List Stp} {s : Stp} (h : StdRow B x v (R ++ [s])) :
    ∃ g cap, v = .slice (some ⟨g, 0, none⟩) (R.length + 1) cap ∧ B ≤ g ∧ g < x.heap.size ∧
      (∀ Z, (Instr.indexAt tStds v (.int .i64 (R.length : Int))).run Tryz.prog Z = .ok (.pointer (some ⟨g, R.length * 2, none⟩)) Z) ∧ x.cell? ⟨g, R.length * 2, none⟩ = some (.int .i64 (s.1 : Int)) ∧ x.cell? ⟨g, R.length * 2 + 1, none⟩ = some (.bool s.2) ∧
      (∀ Z, (Instr.slice tStds v none (some (.int .i64 (R.length : Int))) none).run Tryz.prog Z = .ok (.slice (some ⟨g, 0, none⟩) R.length cap) Z) ∧ StdRow B x (.slice (some ⟨g, 0, none⟩) R.length cap) R := by
  have h' : x.ownsRow B tStand 2 v (R.length + 1) (cellsP (R ++ [s])) := by
    have : x.ownsRow B tStand 2 v (R ++ [s]).length (cellsP (R ++ [s])) := h
    rwa [List.length_append, List.length_singleton] at this
  obtain ⟨g, cap, rfl, hB, hg, hcap, hc⟩ := own_open h'
  obtain ⟨c0, c1⟩ := cellsP_at (R ++ [s]) (j := R.length) (by simp)
  have e : (R ++ [s])[R.length]'(by simp) = s := by simp
  rw [e] at c0 c1
  refine ⟨g, cap, rfl, hB, hg, fun W => ?_, hc _ _ c0, hc _ _ c1, fun W => ?_, ?_⟩
  · rw [run_indexAt_slice W _ _ _ _ _ _ elemSd, if_pos ⟨by omega, by omega⟩, sizeSd]
    have e : ((R.length : Int)).toNat = R.length := by omega
    simp only [Result.andThen_ok, e, Addr.add_lit, Nat.zero_add]
  · rw [run_slice_h (ht := elemSd) (h0 := by omega) (h2 := by omega), sizeSd]
    simp [sliced, show ¬ cap = 0 by omega, Addr.add_lit]
  · have := own_cut h' (m := R.length) (by omega)
    have e2 : (cellsP (R ++ [s])).take (R.length * 2) = cellsP R := by
      rw [cellsP_append, List.take_append_of_le_length (by rw [cellsP_len]; omega), List.take_of_length_le (by rw [cellsP_len]; omega)]
    rw [e2] at this
    exact this
theorem Tab.count {k t : TypeId} {x : World} {b n : Nat} {f : Value → Option Int} (h : Tab k x b n f) (ht : Tryz.prog.underlying t = some (.map k 3)) : ∃ z : Nat, z ≤ n ∧ ∀ ty, (Builtin.len_ #[t] ty #[.map (some b)]).run Tryz.prog x = .ok (.int .i64 (z : Int)) x := by
  obtain ⟨D, ho, -⟩ := h
  exact ⟨_, ho.size_le, fun ty => ho.len ht ty⟩
def Came (x : World) (b : Nat) (C : List Stp) : Prop := ∃ m f, m ≤ C.length ∧ Tab tStand x b m f ∧ ∀ s : Stp, (f (stdV s)).isSome = true ↔ s ∈ C
theorem Came.below {x y : World} {b : Nat} {C : List Stp} (h : Came x b C) (hb : Below x.heap.size x y) : Came y b C := by
  obtain ⟨m, f, h1, h2, h3⟩ := h
  exact ⟨m, f, h1, h2.below hb, h3⟩
theorem Came.turn {x y : World} {b : Nat} {C : List Stp} (h : Came x b C) {F : Nat → Prop} (ht : Turns F x y) (hF : ¬ F b) : Came y b C := by
  obtain ⟨m, f, h1, h2, h3⟩ := h
  exact ⟨m, f, h1, h2.turn ht hF, h3⟩
theorem Came.not_row {x : World} {b B n : Nat} {e : TypeId} {sz : Nat} {v : Value} {xs : List Value} {C : List Stp} (h : Came x b C) (ho : x.ownsRow B e sz v n xs) : ¬ v.ownBlock = some b := fun hk => by
  obtain ⟨m, f, -, ⟨D, ⟨es, clock, hb, -⟩, -⟩, -⟩ := h
  rcases ho.2 with ⟨rfl, -⟩ | ⟨g', cap, cur', rfl, -, hg', -⟩
  · cases hk
  · obtain rfl : g' = b := Option.some.inj hk
    rw [hg'] at hb
    cases Option.some.inj hb
theorem Came.lt' {x : World} {b : Nat} {C : List Stp} (h : Came x b C) : b < x.heap.size := by
  obtain ⟨m, f, -, h2, -⟩ := h
  exact h2.lt
theorem Came.not_cells {x : World} {b g : Nat} {C : List Stp} {cs : Array Value} {T : TypeId} {fz : Nat × Nat} (h : Came x b C) (hg : x.heap[g]? = some (.cells cs T fz)) : g ≠ b := fun e => by
  obtain ⟨m, f, -, ⟨D, ⟨es, clock, hb, -⟩, -⟩, -⟩ := h
  subst e
  rw [hg] at hb
  cases Option.some.inj hb
set_option maxHeartbeats 16000000 in
set_option maxRecDepth 100000 in
theorem turns_any (W : Web) (n f : Nat) (hn : n = W.length) (hn48 : n ≤ 48) (hf : f < n) (hst : ∀ k s, Lt.step W k s → s.1 < n) (hl : ∀ k, (W.getD k []).length ≤ 100000) (g : Nat) (w : World) (h : WebAt w g W) :
    Calls Tryz.prog 33 #[.slice (some ⟨g, 0, none⟩) n n, .int .i64 (f : Int)] w fun e y => ∃ b, e = .returned (.bool b) ∧ (b = true ↔ Pth W f f true) ∧ Below w.heap.size w y := by
  have HA := Lib.hid (And.intro hn (And.intro hst (And.intro hl h)))
  have al1 := Tr.fresh_one w (.cells #[.int .i64 (f : Int), .bool false] tStand)
  have al2 := Tr.fresh_one (w.alloc (.cells #[.int .i64 (f : Int), .bool false] tStand)) (.map #[] 0)
  have hs1 : (w.alloc (.cells #[.int .i64 (f : Int), .bool false] tStand)).heap.size = w.heap.size + 1 := by simp
  have hrow := one_std (w := w) (Nat.le_refl _) (f, false)
  have htab := Tab.made tStand (w.alloc (.cells #[.int .i64 (f : Int), .bool false] tStand))
  rw [hs1] at htab
  have hmm := @run_makeMap Tryz.prog
  have H0 := Lib.hid (show StdRow w.heap.size ((w.alloc (.cells #[.int .i64 (f : Int), .bool false] tStand)).alloc (.map #[] 0)) (.slice (some ⟨w.heap.size, 0, none⟩) 1 1) [(f, false)] ∧ Came ((w.alloc (.cells #[.int .i64 (f : Int), .bool false] tStand)).alloc (.map #[] 0)) (w.heap.size + 1) [] ∧ Below w.heap.size w ((w.alloc (.cells #[.int .i64 (f : Int), .bool false] tStand)).alloc (.map #[] 0)) from
    ⟨own_below hrow al2, ⟨0, _, Nat.le_refl _, htab, fun s => by simp⟩, al1.trans (al2.mono al1.size)⟩)
  clear hn hst hl h al1 al2 hs1 hrow htab
  go_enter Tryz.func33, Tryz.ntmps33
  go_upto_region 3 with fail
  generalize (w.alloc (.cells #[.int .i64 (f : Int), .bool false] tStand)).alloc (.map #[] 0) = X at *
  go_loopg [5] (4 * n + 1) (fun q rv wr => ∃ (C R : List Stp), q = (4 * n - 2 * C.length) + R.length ∧ Hid (StdRow w.heap.size wr rv R ∧ Came wr (w.heap.size + 1) C ∧ Below w.heap.size w wr ∧ Srch W f C R ∧ C.Nodup ∧ (∀ s ∈ C, s.1 < n) ∧ R.length ≤ C.length + 1))
  case atStart => exact ⟨[], [(f, false)], by simp, Lib.hid ⟨H0.out.1, H0.out.2.1, H0.out.2.2, Srch.start W f, List.nodup_nil, by simp, by simp⟩⟩
  case round =>
    obtain ⟨C, R, rfl, HR⟩ := hrel
    rcases List.eq_nil_or_concat R with rfl | ⟨R', s, rfl⟩
    · obtain ⟨ro, rcp, rfl⟩ := own_slice (show wr.ownsRow _ tStand 2 _ _ _ from HR.out.1)
      obtain ⟨m, fm, hm, htab, hfm⟩ := HR.out.2.1
      have hlk := htab.look keyD mapD (v := stdV (f, true)) (okD (by omega))
      have HE := Lib.hid (show ((fm (stdV (f, true))).isSome = true ↔ Pth W f f true) ∧ Below w.heap.size w wr from ⟨(hfm (f, true)).trans (HR.out.2.2.2.1.end f true), HR.out.2.2.1⟩)
      clear hfm htab HR
      go_wp2_with fail
      go_ret
      exact ⟨_, rfl, HE.out.1, HE.out.2⟩
    · rw [List.concat_eq_append] at HR
      obtain ⟨gr, rcp, rfl, hB, hgr, hix, c0, c1, hsl, hrow⟩ := std_last HR.out.1
      have hsn : s.1 < n := by
        rcases HR.out.2.2.2.1.rest s (by simp) with h1 | h1
        · rw [h1]; exact hf
        · exact HR.out.2.2.2.2.2.1 s h1
      have hsW : s.1 < W.length := by have := HA.out.1; omega
      have hlC := pairs_le HR.out.2.2.2.2.1 HR.out.2.2.2.2.2.1
      have hRC := HR.out.2.2.2.2.2.2
      rw [List.length_append, List.length_singleton] at hRC
      have hRb : R'.length ≤ 1000 := by omega
      have alS := Tr.fresh_one wr (.cells #[.int .i64 (s.1 : Int), .bool s.2] tStand)
      have hkS := heap_alloc_new wr (.cells #[.int .i64 (s.1 : Int), .bool s.2] tStand)
      have HY := Lib.hid (show StdRow w.heap.size (wr.alloc (.cells #[.int .i64 (s.1 : Int), .bool s.2] tStand)) (.slice (some ⟨gr, 0, none⟩) R'.length rcp) R' ∧ Came (wr.alloc (.cells #[.int .i64 (s.1 : Int), .bool s.2] tStand)) (w.heap.size + 1) C ∧ Below w.heap.size w (wr.alloc (.cells #[.int .i64 (s.1 : Int), .bool s.2] tStand)) ∧ (wr.alloc (.cells #[.int .i64 (s.1 : Int), .bool s.2] tStand)).heap[wr.heap.size]? = _ ∧ gr < wr.heap.size from
        ⟨own_below hrow alS, HR.out.2.1.below alS, HR.out.2.2.1.trans (alS.mono HR.out.2.2.1.size), hkS, hgr⟩)
      have HS := Lib.hid (And.intro HR.out.2.2.2 hRC)
      obtain ⟨so, sc, hixw, hgw, cw, hrw⟩ := (HA.out.2.2.2.below HY.out.2.2.1).row HA.out.1 hsW
      have hWL : W.getD s.1 [] = W[s.1] := by rw [List.getD_eq_getElem?_getD, List.getElem?_eq_getElem hsW]; rfl
      have hLb := HA.out.2.2.1 s.1
      rw [hWL] at hLb
      have HWL := Lib.hid (And.intro hWL hLb)
      have hrw0 := (HA.out.2.2.2).row HA.out.1 hsW
      obtain ⟨so', sc', -, -, cw', hrw'⟩ := hrw0
      have hsame : so' = so ∧ sc' = sc := by
        have h1 := (HY.out.2.2.1.cell (p := ⟨g, s.1, none⟩) (World.block_lt_of_cell? w _ cw')).trans cw'
        rw [cw] at h1
        simpa using h1.symm
      obtain ⟨rfl, rfl⟩ := hsame
      have HRW := Lib.hid hrw'
      generalize hLL : W[s.1] = L at *
      have hLb9 : L.length ≤ 9223372036854775807 := by omega
      obtain ⟨s0, s1⟩ := box2 hkS
      clear hB hgr hrow alS hkS hgw hrw hrw' cw' hWL hLb HR hlC
      go_wp2_with fail
      clear c0 c1 s0 s1 hix hsl hixw cw
      generalize wr.alloc (.cells #[.int .i64 (s.1 : Int), .bool s.2] tStand) = Y at *
      generalize wr.heap.size = sb at *
      go_loopw [5, 39] (fun rv i wr => ∃ (j : Nat) (C2 R2 : List Stp), j ≤ L.length ∧ i = .int .i64 j ∧ Hid (StdRow w.heap.size wr rv R2 ∧ Came wr (w.heap.size + 1) C2 ∧ Below w.heap.size w wr ∧ Look W f C2 R2 s j ∧ C2.Nodup ∧ (∀ s ∈ C2, s.1 < n) ∧ R2.length ≤ C2.length + 1 ∧ R2.length + C.length = R'.length + C2.length ∧ C.length ≤ C2.length ∧ wr.heap[sb]? = some (.cells #[.int .i64 (s.1 : Int), .bool s.2] tStand (0, 0)) ∧ rv.ownBlock ≠ some sb ∧ sb < wr.heap.size)) (fun _ i _ => L.length - (intOf i).toNat)
      case atStart => exact ⟨0, C, R', by omega, rfl, Lib.hid ⟨HY.out.1, HY.out.2.1, HY.out.2.2.1, HS.out.1.1.look, HS.out.1.2.1, HS.out.1.2.2.1, by have := HS.out.2; omega, rfl, Nat.le_refl _, HY.out.2.2.2.1, fun e => by have h1 : gr = sb := Option.some.inj e; have := HY.out.2.2.2.2; omega, (Array.getElem?_eq_some_iff.1 HY.out.2.2.2.1).1⟩⟩
      case round =>
        obtain ⟨j, C2, R2, hj, rfl, HK⟩ := hrel
        obtain ⟨oo, oc, rfl⟩ := own_slice (show wr.ownsRow _ tStand 2 _ _ _ from HK.out.1)
        by_cases hlt : j < L.length
        · obtain ⟨g3, q3, hix3, -, hg3, d0', d1'⟩ := stp_at HRW.out hlt
          have d0 := (HK.out.2.2.1.cell (p := ⟨g3, q3, none⟩) hg3).trans d0'
          have d1 := (HK.out.2.2.1.cell (p := ⟨g3, q3 + 1, none⟩) hg3).trans d1'
          have hyL : (W.getD s.1 [])[j]? = some L[j] := by rw [HWL.out.1]; exact List.getElem?_eq_getElem hlt
          have hyn := HA.out.2.1 s.1 L[j] (List.mem_of_getElem? hyL)
          generalize L[j] = y at *
          obtain ⟨p1, p2, p3, p4⟩ := Gr.two_boxes wr #[.int .i64 (y.1 : Int), .bool y.2] #[.int .i64 (y.1 : Int), .bool (s.2 || y.2)] tStp tStand
          have hkst := heap_alloc_new wr (.cells #[.int .i64 (y.1 : Int), .bool y.2] tStp)
          have al1 := Tr.fresh_one wr (.cells #[.int .i64 (y.1 : Int), .bool y.2] tStp)
          obtain ⟨y0, y1⟩ := box2 hkst
          obtain ⟨b0, b1⟩ := box2 ((al1.block _ HK.out.2.2.2.2.2.2.2.2.2.2.2).trans HK.out.2.2.2.2.2.2.2.2.2.1)
          obtain ⟨x0, x1⟩ := box2 p3
          have HQ := Lib.hid (show StdRow w.heap.size ((wr.alloc (.cells #[.int .i64 (y.1 : Int), .bool y.2] tStp)).alloc (.cells #[.int .i64 (y.1 : Int), .bool (s.2 || y.2)] tStand)) _ R2 ∧ Came ((wr.alloc (.cells #[.int .i64 (y.1 : Int), .bool y.2] tStp)).alloc (.cells #[.int .i64 (y.1 : Int), .bool (s.2 || y.2)] tStand)) (w.heap.size + 1) C2 ∧ Below w.heap.size w ((wr.alloc (.cells #[.int .i64 (y.1 : Int), .bool y.2] tStp)).alloc (.cells #[.int .i64 (y.1 : Int), .bool (s.2 || y.2)] tStand)) ∧ _ ∧ _ ∧ sb < wr.heap.size ∧ wr.heap.size + 2 = ((wr.alloc (.cells #[.int .i64 (y.1 : Int), .bool y.2] tStp)).alloc (.cells #[.int .i64 (y.1 : Int), .bool (s.2 || y.2)] tStand)).heap.size from
            ⟨own_below HK.out.1 p1, HK.out.2.1.below p1, HK.out.2.2.1.trans (p1.mono HK.out.2.2.1.size), (p1.block _ HK.out.2.2.2.2.2.2.2.2.2.2.2).trans HK.out.2.2.2.2.2.2.2.2.2.1, p3, HK.out.2.2.2.2.2.2.2.2.2.2.2, p4.symm⟩)
          obtain ⟨m, fm, hm, htab, hfm⟩ := HQ.out.2.1
          have hC2 := pairs_le HK.out.2.2.2.2.1 HK.out.2.2.2.2.2.1
          have hlk := htab.look keyD mapD (v := stdV (y.1, s.2 || y.2)) (okD (by omega))
          obtain ⟨z, hz, hlen⟩ := htab.count mapD
          have HT := Lib.hid (And.intro htab (And.intro hfm (And.intro hyL hyn)))
          have HL := Lib.hid HK.out.2.2.2
          have HMB := Lib.hid (HK.out.2.1.lt')
          have HSB := Lib.hid (HK.out.2.1.not_cells HK.out.2.2.2.2.2.2.2.2.2.1)
          clear htab hfm hyL hyn d0' d1' hg3 p1 p2 p3 p4 hkst al1 HK
          cases hs2 : s.2 with
          | true =>
            have ho : (s.2 || y.2) = true := by rw [hs2]; rfl
            rw [hs2] at b1
            rw [ho] at x0 x1 HQ HT hlen hlk
            rw [hs2] at HQ
            cases hin : (fm (stdV (y.1, true))).isSome with
            | true =>
              rw [hin] at hlk
              have hmem : (y.1, s.2 || y.2) ∈ C2 := by rw [ho]; exact (HT.out.2.1 (y.1, true)).1 hin
              have HO := Lib.hid (HL.out.1.old HT.out.2.2.1 hmem)
              clear hin hmem hlen
              go_wp2_with fail
              go_roundw
              case rel => exact ⟨j + 1, C2, R2, by omega, by go_num, Lib.hid ⟨HQ.out.1, HQ.out.2.1, HQ.out.2.2.1, HO.out, HL.out.2.1, HL.out.2.2.1, HL.out.2.2.2.1, HL.out.2.2.2.2.1, HL.out.2.2.2.2.2.1, HQ.out.2.2.2.1, HL.out.2.2.2.2.2.2.2.1, by have := HQ.out.2.2.2.2.2; omega⟩⟩
              case measure => simp [intOf]; omega
            | false =>
              rw [hin] at hlk
              have hnot : (y.1, s.2 || y.2) ∉ C2 := fun h => by
                rw [ho] at h
                rw [(HT.out.2.1 (y.1, true)).2 h] at hin
                cases hin
              have HO := Lib.hid (HL.out.1.new HT.out.2.2.1)
              have HN := Lib.hid (And.intro hnot (show Ok tStand (.agg #[.int .i64 (y.1 : Int), .bool true]) from okD (by have := HT.out.2.2.2; omega)))
              clear hin hnot
              generalize hW2 : (wr.alloc (.cells #[.int .i64 (y.1 : Int), .bool y.2] tStp)).alloc (.cells #[.int .i64 (y.1 : Int), .bool true] tStand) = W2 at *
              go_wp2_with (at_mapUpdate; refine walk_put rfl _ _ _ rfl HT.out.1 keyD mapD (by omega) rfl rfl rfl HN.out.2 (by omega) (g := open Classical in fun u => if u = .agg #[.int .i64 (y.1 : Int), .bool true] then some (z : Int) else fm u) ⟨if_pos rfl, fun u _ hu => if_neg hu⟩ ?_)
              intro W3 ht3 hg3
              have hty : Turns (fun k => some (w.heap.size + 1) = some k) W2 W3 := Turns.of_grown hg3 fun k hk => hk
              have hcm : Came W3 (w.heap.size + 1) (C2 ++ [(y.1, true)]) := ⟨m + 1, _, by rw [List.length_append, List.length_singleton]; omega, ht3, fun s' => by
                by_cases e : stdV s' = .agg #[.int .i64 (y.1 : Int), .bool true]
                · have e2 : s' = (y.1, true) := stdV_inj e
                  simp [e2]
                · have e2 : s' ≠ (y.1, true) := fun h => e (by rw [h])
                  simp only [if_neg e, List.mem_append, List.mem_singleton, e2, or_false]
                  exact HT.out.2.1 s'⟩
              have hmb : w.heap.size + 1 < wr.heap.size := by
                have h1 := HT.out.1.lt
                have h2 := HQ.out.2.2.2.2.2.2
                have h3 := HQ.out.2.2.2.2.2.1
                have h4 := HMB.out
                omega
              have hnr := HQ.out.2.1.not_row HQ.out.1
              have hrow3 : StdRow w.heap.size W3 (.slice oo R2.length oc) R2 := own_turn HQ.out.1 hty fun k hk e => by rw [← Option.some.inj e] at hk; exact hnr hk
              have hb3 : Below w.heap.size w W3 := HQ.out.2.2.1.trans (hty.below HQ.out.2.2.1.size fun k hk => by have := Option.some.inj hk; omega)
              have hsb3 := hty.heap HQ.out.2.2.2.1 (fun e => HSB.out (Option.some.inj e).symm)
              have hnx3 := hty.heap HQ.out.2.2.2.2.1 (fun e => by have := Option.some.inj e; omega)
              obtain ⟨n0, n1⟩ := box2 hnx3
              have al4 := Tr.fresh_one W3 (.cells #[.int .i64 (y.1 : Int), .bool true] tStand)
              have HW := Lib.hid (show StdRow w.heap.size (W3.alloc (.cells #[.int .i64 (y.1 : Int), .bool true] tStand)) (.slice oo R2.length oc) R2 ∧ w.heap.size ≤ (W3.alloc (.cells #[.int .i64 (y.1 : Int), .bool true] tStand)).heap.size ∧ Came (W3.alloc (.cells #[.int .i64 (y.1 : Int), .bool true] tStand)) (w.heap.size + 1) (C2 ++ [(y.1, true)]) ∧ Below w.heap.size w (W3.alloc (.cells #[.int .i64 (y.1 : Int), .bool true] tStand)) ∧ (W3.alloc (.cells #[.int .i64 (y.1 : Int), .bool true] tStand)).heap[sb]? = _ ∧ sb < (W3.alloc (.cells #[.int .i64 (y.1 : Int), .bool true] tStand)).heap.size from
                ⟨own_below hrow3 al4, Nat.le_trans hb3.size al4.size, hcm.below al4, hb3.trans (al4.mono hb3.size), (al4.block _ (Array.getElem?_eq_some_iff.1 hsb3).1).trans hsb3, Nat.lt_of_lt_of_le (Array.getElem?_eq_some_iff.1 hsb3).1 al4.size⟩)
              obtain ⟨ti, tz, tb, TE, hT⟩ := stds_elem
              have HTE := Lib.hid (And.intro TE hT)
              have hRb2 : R2.length ≤ 1000 := by have := HL.out.2.2.2.1; omega
              clear ht3 hg3 hty hcm hmb hnr hrow3 hb3 hsb3 hnx3 al4 TE hT
              go_wp2_with (at_builtin; refine walk_rows HTE.out.1 rfl _ _ rfl rfl rfl HW.out.1 HW.out.2.1 (m := 1) rfl (new_cells _ _ [.int .i64 (y.1 : Int), .bool true] (by simp)) (by intro u' hu'; simp at hu'; rcases hu' with rfl | rfl <;> rfl) (by omega) (Nat.le_trans (Nat.mul_le_mul_left _ HTE.out.2) (by omega)) ?_)
              intro v2 z2 r2 gr2 n2
              have hz2 : Turns (fun k => (Value.slice oo R2.length oc).ownBlock = some k) _ z2 := Turns.of_grown gr2 fun k hk => hk
              have hlow := fun k hk => (World.ownsRow.lt HW.out.1 k hk).1
              have HZ := Lib.hid (show StdRow w.heap.size z2 v2 (R2 ++ [(y.1, true)]) ∧ Came z2 (w.heap.size + 1) (C2 ++ [(y.1, true)]) ∧ Below w.heap.size w z2 ∧ z2.heap[sb]? = _ ∧ v2.ownBlock ≠ some sb ∧ sb < z2.heap.size from
                ⟨by show World.ownsRow _ _ _ _ _ _ _; rw [List.length_append, cellsP_append]; exact r2, HW.out.2.2.1.turn hz2 (HW.out.2.2.1.not_row HW.out.1), HW.out.2.2.2.1.trans (hz2.below HW.out.2.1 hlow), hz2.heap HW.out.2.2.2.2.1 HL.out.2.2.2.2.2.2.2.1, fun e => by
                  rcases n2 _ e with h1 | h1
                  · exact HL.out.2.2.2.2.2.2.2.1 h1
                  · exact absurd (Nat.lt_of_lt_of_le HW.out.2.2.2.2.2 h1) (Nat.lt_irrefl _), Nat.lt_of_lt_of_le HW.out.2.2.2.2.2 hz2.size⟩)
              have HO2 := Lib.hid (show Look W f (C2 ++ [(y.1, true)]) (R2 ++ [(y.1, true)]) s (j + 1) ∧ (C2 ++ [(y.1, true)]).Nodup ∧ (∀ s ∈ C2 ++ [(y.1, true)], s.1 < n) from by
                have h1 := HO.out
                have h2 := HN.out.1
                rw [ho] at h1 h2
                refine ⟨h1, ?_, fun s' hs' => ?_⟩
                · rw [List.nodup_append]
                  exact ⟨HL.out.2.1, by simp, fun a ha b hb e => h2 (by rw [List.mem_singleton] at hb; rw [← hb, ← e]; exact ha)⟩
                · rcases List.mem_append.1 hs' with h | h
                  · exact HL.out.2.2.1 s' h
                  · rw [List.mem_singleton] at h; subst h; exact HT.out.2.2.2)
              clear r2 gr2 n2 hz2 hlow n0 n1 HO HW
              go_wp2_with fail
              go_roundw
              case rel => exact ⟨j + 1, C2 ++ [(y.1, true)], R2 ++ [(y.1, true)], by omega, by go_num, Lib.hid ⟨HZ.out.1, HZ.out.2.1, HZ.out.2.2.1, HO2.out.1, HO2.out.2.1, HO2.out.2.2, by have := HL.out.2.2.2.1; simp only [List.length_append, List.length_singleton]; omega, by have := HL.out.2.2.2.2.1; simp only [List.length_append, List.length_singleton]; omega, by have := HL.out.2.2.2.2.2.1; simp only [List.length_append, List.length_singleton]; omega, HZ.out.2.2.2⟩⟩
              case measure => simp [intOf]; omega
          | false =>
            have ho : (s.2 || y.2) = y.2 := by rw [hs2]; rfl
            rw [hs2] at b1
            rw [ho] at x0 x1 HQ HT hlen hlk
            rw [hs2] at HQ
            cases hin : (fm (stdV (y.1, y.2))).isSome with
            | true =>
              rw [hin] at hlk
              have hmem : (y.1, s.2 || y.2) ∈ C2 := by rw [ho]; exact (HT.out.2.1 (y.1, y.2)).1 hin
              have HO := Lib.hid (HL.out.1.old HT.out.2.2.1 hmem)
              clear hin hmem hlen
              go_wp2_with fail
              go_roundw
              case rel => exact ⟨j + 1, C2, R2, by omega, by go_num, Lib.hid ⟨HQ.out.1, HQ.out.2.1, HQ.out.2.2.1, HO.out, HL.out.2.1, HL.out.2.2.1, HL.out.2.2.2.1, HL.out.2.2.2.2.1, HL.out.2.2.2.2.2.1, HQ.out.2.2.2.1, HL.out.2.2.2.2.2.2.2.1, by have := HQ.out.2.2.2.2.2; omega⟩⟩
              case measure => simp [intOf]; omega
            | false =>
              rw [hin] at hlk
              have hnot : (y.1, s.2 || y.2) ∉ C2 := fun h => by
                rw [ho] at h
                rw [(HT.out.2.1 (y.1, y.2)).2 h] at hin
                cases hin
              have HO := Lib.hid (HL.out.1.new HT.out.2.2.1)
              have HN := Lib.hid (And.intro hnot (show Ok tStand (.agg #[.int .i64 (y.1 : Int), .bool y.2]) from okD (by have := HT.out.2.2.2; omega)))
              clear hin hnot
              generalize hW2 : (wr.alloc (.cells #[.int .i64 (y.1 : Int), .bool y.2] tStp)).alloc (.cells #[.int .i64 (y.1 : Int), .bool y.2] tStand) = W2 at *
              go_wp2_with (at_mapUpdate; refine walk_put rfl _ _ _ rfl HT.out.1 keyD mapD (by omega) rfl rfl rfl HN.out.2 (by omega) (g := open Classical in fun u => if u = .agg #[.int .i64 (y.1 : Int), .bool y.2] then some (z : Int) else fm u) ⟨if_pos rfl, fun u _ hu => if_neg hu⟩ ?_)
              intro W3 ht3 hg3
              have hty : Turns (fun k => some (w.heap.size + 1) = some k) W2 W3 := Turns.of_grown hg3 fun k hk => hk
              have hcm : Came W3 (w.heap.size + 1) (C2 ++ [(y.1, y.2)]) := ⟨m + 1, _, by rw [List.length_append, List.length_singleton]; omega, ht3, fun s' => by
                by_cases e : stdV s' = .agg #[.int .i64 (y.1 : Int), .bool y.2]
                · have e2 : s' = (y.1, y.2) := stdV_inj e
                  simp [e2]
                · have e2 : s' ≠ (y.1, y.2) := fun h => e (by rw [h])
                  simp only [if_neg e, List.mem_append, List.mem_singleton, e2, or_false]
                  exact HT.out.2.1 s'⟩
              have hmb : w.heap.size + 1 < wr.heap.size := by
                have h1 := HT.out.1.lt
                have h2 := HQ.out.2.2.2.2.2.2
                have h3 := HQ.out.2.2.2.2.2.1
                have h4 := HMB.out
                omega
              have hnr := HQ.out.2.1.not_row HQ.out.1
              have hrow3 : StdRow w.heap.size W3 (.slice oo R2.length oc) R2 := own_turn HQ.out.1 hty fun k hk e => by rw [← Option.some.inj e] at hk; exact hnr hk
              have hb3 : Below w.heap.size w W3 := HQ.out.2.2.1.trans (hty.below HQ.out.2.2.1.size fun k hk => by have := Option.some.inj hk; omega)
              have hsb3 := hty.heap HQ.out.2.2.2.1 (fun e => HSB.out (Option.some.inj e).symm)
              have hnx3 := hty.heap HQ.out.2.2.2.2.1 (fun e => by have := Option.some.inj e; omega)
              obtain ⟨n0, n1⟩ := box2 hnx3
              have al4 := Tr.fresh_one W3 (.cells #[.int .i64 (y.1 : Int), .bool y.2] tStand)
              have HW := Lib.hid (show StdRow w.heap.size (W3.alloc (.cells #[.int .i64 (y.1 : Int), .bool y.2] tStand)) (.slice oo R2.length oc) R2 ∧ w.heap.size ≤ (W3.alloc (.cells #[.int .i64 (y.1 : Int), .bool y.2] tStand)).heap.size ∧ Came (W3.alloc (.cells #[.int .i64 (y.1 : Int), .bool y.2] tStand)) (w.heap.size + 1) (C2 ++ [(y.1, y.2)]) ∧ Below w.heap.size w (W3.alloc (.cells #[.int .i64 (y.1 : Int), .bool y.2] tStand)) ∧ (W3.alloc (.cells #[.int .i64 (y.1 : Int), .bool y.2] tStand)).heap[sb]? = _ ∧ sb < (W3.alloc (.cells #[.int .i64 (y.1 : Int), .bool y.2] tStand)).heap.size from
                ⟨own_below hrow3 al4, Nat.le_trans hb3.size al4.size, hcm.below al4, hb3.trans (al4.mono hb3.size), (al4.block _ (Array.getElem?_eq_some_iff.1 hsb3).1).trans hsb3, Nat.lt_of_lt_of_le (Array.getElem?_eq_some_iff.1 hsb3).1 al4.size⟩)
              obtain ⟨ti, tz, tb, TE, hT⟩ := stds_elem
              have HTE := Lib.hid (And.intro TE hT)
              have hRb2 : R2.length ≤ 1000 := by have := HL.out.2.2.2.1; omega
              clear ht3 hg3 hty hcm hmb hnr hrow3 hb3 hsb3 hnx3 al4 TE hT
              go_wp2_with (at_builtin; refine walk_rows HTE.out.1 rfl _ _ rfl rfl rfl HW.out.1 HW.out.2.1 (m := 1) rfl (new_cells _ _ [.int .i64 (y.1 : Int), .bool y.2] (by simp)) (by intro u' hu'; simp at hu'; rcases hu' with rfl | rfl <;> rfl) (by omega) (Nat.le_trans (Nat.mul_le_mul_left _ HTE.out.2) (by omega)) ?_)
              intro v2 z2 r2 gr2 n2
              have hz2 : Turns (fun k => (Value.slice oo R2.length oc).ownBlock = some k) _ z2 := Turns.of_grown gr2 fun k hk => hk
              have hlow := fun k hk => (World.ownsRow.lt HW.out.1 k hk).1
              have HZ := Lib.hid (show StdRow w.heap.size z2 v2 (R2 ++ [(y.1, y.2)]) ∧ Came z2 (w.heap.size + 1) (C2 ++ [(y.1, y.2)]) ∧ Below w.heap.size w z2 ∧ z2.heap[sb]? = _ ∧ v2.ownBlock ≠ some sb ∧ sb < z2.heap.size from
                ⟨by show World.ownsRow _ _ _ _ _ _ _; rw [List.length_append, cellsP_append]; exact r2, HW.out.2.2.1.turn hz2 (HW.out.2.2.1.not_row HW.out.1), HW.out.2.2.2.1.trans (hz2.below HW.out.2.1 hlow), hz2.heap HW.out.2.2.2.2.1 HL.out.2.2.2.2.2.2.2.1, fun e => by
                  rcases n2 _ e with h1 | h1
                  · exact HL.out.2.2.2.2.2.2.2.1 h1
                  · exact absurd (Nat.lt_of_lt_of_le HW.out.2.2.2.2.2 h1) (Nat.lt_irrefl _), Nat.lt_of_lt_of_le HW.out.2.2.2.2.2 hz2.size⟩)
              have HO2 := Lib.hid (show Look W f (C2 ++ [(y.1, y.2)]) (R2 ++ [(y.1, y.2)]) s (j + 1) ∧ (C2 ++ [(y.1, y.2)]).Nodup ∧ (∀ s ∈ C2 ++ [(y.1, y.2)], s.1 < n) from by
                have h1 := HO.out
                have h2 := HN.out.1
                rw [ho] at h1 h2
                refine ⟨h1, ?_, fun s' hs' => ?_⟩
                · rw [List.nodup_append]
                  exact ⟨HL.out.2.1, by simp, fun a ha b hb e => h2 (by rw [List.mem_singleton] at hb; rw [← hb, ← e]; exact ha)⟩
                · rcases List.mem_append.1 hs' with h | h
                  · exact HL.out.2.2.1 s' h
                  · rw [List.mem_singleton] at h; subst h; exact HT.out.2.2.2)
              clear r2 gr2 n2 hz2 hlow n0 n1 HO HW
              go_wp2_with fail
              go_roundw
              case rel => exact ⟨j + 1, C2 ++ [(y.1, y.2)], R2 ++ [(y.1, y.2)], by omega, by go_num, Lib.hid ⟨HZ.out.1, HZ.out.2.1, HZ.out.2.2.1, HO2.out.1, HO2.out.2.1, HO2.out.2.2, by have := HL.out.2.2.2.1; simp only [List.length_append, List.length_singleton]; omega, by have := HL.out.2.2.2.2.1; simp only [List.length_append, List.length_singleton]; omega, by have := HL.out.2.2.2.2.2.1; simp only [List.length_append, List.length_singleton]; omega, HZ.out.2.2.2⟩⟩
              case measure => simp [intOf]; omega
        · have hj' : j = L.length := by omega
          subst hj'
          have hq : ((4 * n - 2 * C2.length) + R2.length) < ((4 * n - 2 * C.length) + (R' ++ [s]).length) := by
            have h1 := HK.out.2.2.2.2.2.2.2
            have h2 := pairs_le HK.out.2.2.2.2.1 HK.out.2.2.2.2.2.1
            rw [List.length_append, List.length_singleton]
            omega
          have HE := Lib.hid (And.intro HK.out.1 (And.intro HK.out.2.1 (And.intro HK.out.2.2.1 (And.intro (HK.out.2.2.2.1.end (by rw [HWL.out.1]; exact Nat.le_refl _)) (And.intro HK.out.2.2.2.2.1 (And.intro HK.out.2.2.2.2.2.1 HK.out.2.2.2.2.2.2.1))))))
          clear HK
          go_wp2_with fail
          go_roundg ((4 * n - 2 * C2.length) + R2.length)
          case rel => exact ⟨C2, R2, rfl, HE⟩
          case measure => simpa [List.concat_eq_append] using hq
end Ly
end Go.Proofs.YtopncohhagebbaaGreatDoor

namespace Go.Proofs.YtopncohhagebbaaGreatDoor
open Go.RowKit
namespace Ly
open Tr (own_open own_slice own_below own_turn IsElem)
open Gr (box1 box2)
open Knot (Turns)
open Lt (Stp Web Tied Low Still Calm IsStr up setS risen risen_le risen_set Line tIn elemR1 sizeR1 ints_elem step)

set_option maxRecDepth 100000 in
theorem ints_made : ∃ i b, IsElem Tryz.prog 93 tIn i (.int .i64 0) 1 b ∧ b ≤ 100 := by
  refine ⟨_, _, ⟨by kernel_rfl, rfl, by kernel_rfl, by kernel_rfl, rfl, by kernel_rfl, by omega⟩, ?_⟩
  exact of_decide_eq_true (by kernel_rfl)
theorem above_any (s : Nat) (o : Bool) (hs : s ≤ 1000) (w : World) : Calls Tryz.prog 67 #[.int .i64 (s : Int), .bool o] w fun e x => e = .returned (.int .i64 ((if o then s + 1 else s : Nat) : Int)) ∧ Below w.heap.size w x := by
  cases o with
  | true =>
    go_enter Tryz.func67, Tryz.ntmps67
    go_wp2_with fail
    go_ret
    exact ⟨by simp, Below.refl _ _⟩
  | false =>
    go_enter Tryz.func67, Tryz.ntmps67
    go_wp2_with fail
    go_ret
    exact ⟨by simp, Below.refl _ _⟩
section
variable {x y : World} {g n : Nat} {t : Nat → Int}
theorem line_at (h : Line x g n t) {k : Nat} (hk : k < n) : g < x.heap.size ∧ x.cell? ⟨g, k, none⟩ = some (.int .i64 (t k)) ∧ x.frozen? ⟨g, k, none⟩ = false := by
  obtain ⟨cur, h1, h2⟩ := h
  exact ⟨(Array.getElem?_eq_some_iff.1 h1).1, by rw [Lib.cell_of_heap h1]; exact h2 k hk, Lib.frozen_of_heap h1 k⟩
theorem line_ix (g : Nat) {n k : Nat} (hk : k < n) (Z : World) : (Instr.indexAt 93 (.slice (some ⟨g, 0, none⟩) n n) (.int .i64 (k : Int))).run Tryz.prog Z = .ok (.pointer (some ⟨g, k, none⟩)) Z := by
  rw [run_indexAt_slice Z _ _ _ _ _ _ elemR1, if_pos ⟨by omega, by omega⟩, sizeR1]
  have e : ((k : Int)).toNat = k := by omega
  simp only [Result.andThen_ok, e, Addr.add_lit, Nat.zero_add, Nat.mul_one]
theorem line_put (h : Line x g n t) (k : Nat) (z : Int) : Line (x.setCell ⟨g, k, none⟩ (.int .i64 z)) g n (fun j => if j = k then z else t j) := by
  obtain ⟨cur, h1, h2⟩ := h
  refine ⟨_, Lib.heap_setCell_same h1 _, fun j hj => ?_⟩
  rw [Array.getElem?_setIfInBounds]
  by_cases e : k = j
  · subst e
    have hs : k < cur.size := (Array.getElem?_eq_some_iff.1 (h2 k hj)).1
    rw [if_pos rfl, if_pos hs]
    simp
  · rw [if_neg e, h2 j hj]
    simp only [show ¬ j = k from fun h => e h.symm, if_false]
theorem line_below (h : Line x g n t) (hb : Below x.heap.size x y) : Line y g n t := h.kept (hb.block _ h.lt)
end
set_option maxHeartbeats 16000000 in
set_option maxRecDepth 100000 in
theorem strata_any (W : Web) (n : Nat) (e : Nat → Nat → Int) (hT : Tied W n e) (hc : Lt.Calm n e) (hn48 : n ≤ 48) (hl : ∀ k, (W.getD k []).length ≤ 100000) (g : Nat) (w : World) (h : WebAt w g W) :
    Calls Tryz.prog 35 #[.slice (some ⟨g, 0, none⟩) n n] w fun E y => ∃ (g0 : Nat) (S : Nat → Nat), E = .returned (.slice (some ⟨g0, 0, none⟩) n n) ∧ Line y g0 n (fun k => ((S k : Nat) : Int)) ∧ (∀ i, i < n → IsStr n e i (S i)) ∧ Below w.heap.size w y := by
  have HA := Lib.hid (And.intro hT (And.intro hc (And.intro hl h)))
  have hnW := hT.len
  obtain ⟨ti, tb, TE, hTb⟩ := ints_made
  have hmk : ∀ Z : World, (Instr.makeSlice 93 (.int .i64 (n : Int)) (.int .i64 (n : Int))).run Tryz.prog Z = .ok (.slice (some ⟨Z.heap.size, 0, none⟩) n n) (Z.alloc (.cells (madeCells #[.int .i64 0] n) tIn)) := fun Z => by
    have := mk_row TE (by omega) n (by omega) Z
    rwa [Nat.mul_one] at this
  have hk0 := heap_alloc_new w (.cells (madeCells #[.int .i64 0] n) tIn)
  have H0 := Lib.hid (show Line (w.alloc (.cells (madeCells #[.int .i64 0] n) tIn)) w.heap.size n (fun k => (((fun _ => 0 : Nat → Nat) k : Nat) : Int)) ∧ Below w.heap.size w (w.alloc (.cells (madeCells #[.int .i64 0] n) tIn)) from ⟨⟨_, hk0, fun k hk => made_at _ n k hk⟩, Tr.fresh_one w _⟩)
  clear hT hc hl h TE hTb hk0
  go_enter Tryz.func35, Tryz.ntmps35
  go_upto_region 2 with fail
  clear hmk
  generalize w.alloc (.cells (madeCells #[.int .i64 0] n) tIn) = X at *
  go_wp2_with fail
  go_loopg [4] (2 * (n * n - risen n (fun _ => 0)) + 1) (fun q rv wr => ∃ (S : Nat → Nat) (r : Bool), rv = .bool r ∧ q = 2 * (n * n - risen n S) + (if r then 1 else 0) ∧ Hid (Line wr w.heap.size n (fun k => ((S k : Nat) : Int)) ∧ Low n e S ∧ (r = false → Still W S) ∧ Below w.heap.size w wr))
  case atStart => exact ⟨fun _ => 0, true, rfl, rfl, Lib.hid ⟨H0.out.1, Low.start, fun h => (Bool.noConfusion h), H0.out.2⟩⟩
  case round =>
    obtain ⟨S, r, rfl, rfl, HS⟩ := hrel
    cases r with
    | false =>
      have HE := Lib.hid (show Line wr w.heap.size n (fun k => ((S k : Nat) : Int)) ∧ (∀ i, i < n → IsStr n e i (S i)) ∧ Below w.heap.size w wr from ⟨HS.out.1, fun i hi => (HS.out.2.2.1 rfl).is HA.out.1 HS.out.2.1 hi, HS.out.2.2.2⟩)
      clear HS
      go_wp2_with fail
      refine bodyPost_ret (v := .slice (some ⟨w.heap.size, 0, none⟩) n n) (by simp [results, Tryz.results35, go_sem]) rfl ⟨w.heap.size, S, rfl, HE.out⟩
    | true =>
      have hn9 : n ≤ 9223372036854775807 := by omega
      go_wp2_with fail
      go_loopw [4, 16] (fun rv i wr => ∃ (k : Nat) (S2 : Nat → Nat) (r2 : Bool), k ≤ n ∧ i = .int .i64 k ∧ rv = .bool r2 ∧ Hid (Line wr w.heap.size n (fun k => ((S2 k : Nat) : Int)) ∧ Low n e S2 ∧ Below w.heap.size w wr ∧ (r2 = true → risen n S < risen n S2) ∧ (r2 = false → S2 = S ∧ ∀ i, i < k → ∀ s, Lt.step W i s → up S s ≤ S i))) (fun _ i _ => n - (intOf i).toNat)
      case atStart => exact ⟨0, S, false, by omega, rfl, rfl, Lib.hid ⟨HS.out.1, HS.out.2.1, HS.out.2.2.2, fun h => (Bool.noConfusion h), fun _ => ⟨rfl, fun i hi => absurd hi (Nat.not_lt_zero _)⟩⟩⟩
      case round =>
        obtain ⟨k, S2, r2, hk, rfl, rfl, HK⟩ := hrel
        by_cases hkt : k < n
        · have hkW : k < W.length := by omega
          obtain ⟨so, sc, hixw, hgw, cw', hrw⟩ := HA.out.2.2.2.row hnW.symm hkW
          have cw := (HK.out.2.2.1.cell (p := ⟨g, k, none⟩) hgw).trans cw'
          have hWL : W.getD k [] = W[k] := by rw [List.getD_eq_getElem?_getD, List.getElem?_eq_getElem hkW]; rfl
          have hLb := HA.out.2.2.1 k
          rw [hWL] at hLb
          have HRW := Lib.hid (And.intro hrw (And.intro hWL hLb))
          generalize hLL : W[k] = L at *
          have hLb9 : L.length ≤ 9223372036854775807 := by omega
          clear hrw hWL hLb cw' hgw
          go_wp2_with fail
          clear hixw cw
          go_loopw [4, 23] (fun rv i wr => ∃ (j : Nat) (S3 : Nat → Nat) (r3 : Bool), j ≤ L.length ∧ i = .int .i64 j ∧ rv = .bool r3 ∧ Hid (Line wr w.heap.size n (fun k => ((S3 k : Nat) : Int)) ∧ Low n e S3 ∧ Below w.heap.size w wr ∧ (r3 = true → risen n S < risen n S3) ∧ (r3 = false → S3 = S ∧ (∀ i, i < k → ∀ s, Lt.step W i s → up S s ≤ S i) ∧ ∀ s ∈ L.take j, up S s ≤ S k))) (fun _ i _ => L.length - (intOf i).toNat)
          case atStart => exact ⟨0, S2, r2, by omega, rfl, rfl, Lib.hid ⟨HK.out.1, HK.out.2.1, HK.out.2.2.1, HK.out.2.2.2.1, fun h => ⟨(HK.out.2.2.2.2 h).1, (HK.out.2.2.2.2 h).2, fun s hs => by simp at hs⟩⟩⟩
          case round =>
            clear HK
            obtain ⟨j, S3, r3, hj, rfl, rfl, HJ⟩ := hrel
            by_cases hlt : j < L.length
            · obtain ⟨g3, q3, hix3, -, hg3, d0', d1'⟩ := stp_at HRW.out.1 hlt
              have d0 := (HJ.out.2.2.1.cell (p := ⟨g3, q3, none⟩) hg3).trans d0'
              have d1 := (HJ.out.2.2.1.cell (p := ⟨g3, q3 + 1, none⟩) hg3).trans d1'
              have hstp : Lt.step W k L[j] := by
                show L[j] ∈ W.getD k []
                rw [HRW.out.2.1]
                exact List.getElem_mem hlt
              have htn := (HA.out.1.lt (o := L[j].2) (k := L[j].1) hstp)
              have htk : ∀ s ∈ L.take (j + 1), s ∈ L.take j ∨ s = L[j] := fun s hs => Lt.mem_take_succ (List.getElem?_eq_getElem hlt) hs
              generalize L[j] = y at *
              obtain ⟨hlk, ck, fk⟩ := line_at HJ.out.1 hkt
              obtain ⟨-, ct, -⟩ := line_at HJ.out.1 htn.2
              have hm1 := HJ.out.2.1.most HA.out.2.1 htn.2
              have hm2 := HJ.out.2.1.most HA.out.2.1 hkt
              have al := Tr.fresh_one wr (.cells #[.int .i64 (y.1 : Int), .bool y.2] tStp)
              have hkb := heap_alloc_new wr (.cells #[.int .i64 (y.1 : Int), .bool y.2] tStp)
              have HY := Lib.hid (show Line (wr.alloc (.cells #[.int .i64 (y.1 : Int), .bool y.2] tStp)) w.heap.size n (fun k => ((S3 k : Nat) : Int)) ∧ Below w.heap.size w (wr.alloc (.cells #[.int .i64 (y.1 : Int), .bool y.2] tStp)) from ⟨line_below HJ.out.1 al, HJ.out.2.2.1.trans (al.mono HJ.out.2.2.1.size)⟩)
              have HB := Lib.hid (show ∀ z, Below (wr.alloc (.cells #[.int .i64 (y.1 : Int), .bool y.2] tStp)).heap.size (wr.alloc (.cells #[.int .i64 (y.1 : Int), .bool y.2] tStp)).drew z → (z.cell? ⟨wr.heap.size, 0, none⟩ = some (.int .i64 (y.1 : Int)) ∧ z.cell? ⟨wr.heap.size, 1, none⟩ = some (.bool y.2)) ∧ z.cell? ⟨w.heap.size, y.1, none⟩ = some (.int .i64 ((S3 y.1 : Nat) : Int)) from fun z hz => by
                have hb : Below (wr.alloc (.cells #[.int .i64 (y.1 : Int), .bool y.2] tStp)).heap.size (wr.alloc (.cells #[.int .i64 (y.1 : Int), .bool y.2] tStp)) z := (Below.refl _ _).drew.trans hz
                have hsz : (wr.alloc (.cells #[.int .i64 (y.1 : Int), .bool y.2] tStp)).heap.size = wr.heap.size + 1 := by simp
                exact ⟨box2 ((hb.block _ (by omega)).trans hkb), (hb.cell (p := ⟨w.heap.size, y.1, none⟩) (by simp only; omega)).trans ((al.cell (p := ⟨w.heap.size, y.1, none⟩) hlk).trans ct)⟩)
              have HN := Lib.hid (And.intro hstp (And.intro htn htk))
              have hixI := line_ix w.heap.size htn.2
              have hixK := line_ix w.heap.size hkt
              have HC := Lib.hid (fun z => above_any (S3 y.1) y.2 (by omega) z)
              have HJ2 := Lib.hid HJ.out.2
              clear hstp htn htk hg3 d0' d1' al hkb ck fk ct HJ hlk
              go_upto_region 11 with fail
              clear d0 d1 hix3
              generalize wr.alloc (.cells #[.int .i64 (y.1 : Int), .bool y.2] tStp) = Y at *
              generalize wr.heap.size = bR at *
              refine Order.region_begin (S := Below Y.heap.size Y.drew) (by kernel_rfl) ?_
              refine Order.reads_any (idx := [0, 1, 2, 3, 4, 5, 6]) (by kernel_rfl) (Below.refl _ _) (fun _ _ _ _ _ h => Order.noPanic_put h) 2 _ _ (by decide +kernel) ?_
              simp only [Order.pick, List.getElem?_toArray, List.getElem?_cons_zero, List.getElem?_cons_succ]
              repeat (first
                | (refine Order.reads_off (by rfl) ?_
                   simp only [Act.put, List.setIfInBounds_toArray, List.set_cons_zero, List.set_cons_succ])
                | (apply Order.reads_on
                   · rfl
                   · intro x hx
                     first
                       | (go_simp; rfl)
                       | (obtain ⟨⟨i1, i2⟩, i3⟩ := HB.out x hx
                          go_simp; rfl)
                   simp only [Act.put, List.setIfInBounds_toArray, List.set_cons_zero, List.set_cons_succ]))
              refine Order.reads_end ?_
              apply Order.acts_any (R := (Below Y.heap.size)) (fun h k => h.trans k) (i := 7)
              · rfl
              · decide +kernel
              · rfl
              unfold Oper.wp
              go_simp
              refine Calls.mono (HC.out _) ?_
              rintro E1 Z ⟨rfl, hz⟩
              refine ⟨hz, ?_⟩
              have HZ := Lib.hid (show Below Y.heap.size Y Z from (Below.refl _ _).drew.trans hz)
              clear hz HC HB
              refine Order.reads_any (idx := [8]) (by kernel_rfl) (Below.refl _ _) (fun _ _ _ _ _ h => Order.noPanic_put h) 0 _ _ (by decide +kernel) ?_
              simp only [Order.pick, List.getElem?_toArray, List.getElem?_cons_zero, List.getElem?_cons_succ]
              repeat (first
                | (refine Order.reads_off (by rfl) ?_
                   simp only [Act.put, List.setIfInBounds_toArray, List.set_cons_zero, List.set_cons_succ])
                | (apply Order.reads_on
                   · rfl
                   · intro x hx
                     first
                       | (go_simp; rfl)
                       | (fail
                          go_simp; rfl)
                   simp only [Act.put]))
              refine Order.reads_end ?_
              refine wpAnyH_done (by decide +kernel) ?_ _
              refine NoPanic.normal ?_
              have hup : (if y.2 then S3 y.1 + 1 else S3 y.1) = up S3 y := rfl
              rw [hup]
              have hupm : up S3 y ≤ 1000 := by unfold up; split <;> omega
              have HL := Lib.hid (show Line Z w.heap.size n (fun k => ((S3 k : Nat) : Int)) ∧ Below w.heap.size w Z from ⟨line_below HY.out.1 HZ.out, HY.out.2.trans (HZ.out.mono HY.out.2.size)⟩)
              obtain ⟨hlk, ck, fk⟩ := line_at HL.out.1 hkt
              clear hup hixI HZ HY
              by_cases hgt : S3 k < up S3 y
              · have hgt' : decide (((S3 k : Nat) : Int) < ((up S3 y : Nat) : Int)) = true := by rw [decide_eq_true_eq]; omega
                have hgtN : decide (S3 k < up S3 y) = true := by rw [decide_eq_true_eq]; exact hgt
                have hts : Turns (fun i => i = w.heap.size) Z (Z.setCell ⟨w.heap.size, k, none⟩ (.int .i64 ((up S3 y : Nat) : Int))) := (Turns.refl (fun i => i = w.heap.size) Z).setCell (p := ⟨w.heap.size, k, none⟩) rfl _
                have hrs : risen n S3 < risen n (setS S3 k (up S3 y)) := risen_set hkt hgt
                have hrS : risen n S ≤ risen n S3 := by
                  cases r3 with
                  | true => exact Nat.le_of_lt (HJ2.out.2.2.1 rfl)
                  | false => rw [(HJ2.out.2.2.2 rfl).1]; exact Nat.le_refl _
                have HE := Lib.hid (show Line (Z.setCell ⟨w.heap.size, k, none⟩ (.int .i64 ((up S3 y : Nat) : Int))) w.heap.size n (fun j => ((setS S3 k (up S3 y) j : Nat) : Int)) ∧ Low n e (setS S3 k (up S3 y)) ∧ Below w.heap.size w (Z.setCell ⟨w.heap.size, k, none⟩ (.int .i64 ((up S3 y : Nat) : Int))) ∧ risen n S < risen n (setS S3 k (up S3 y)) from
                  ⟨by
                    have h1 := line_put HL.out.1 k ((up S3 y : Nat) : Int)
                    have h2 : (fun j => if j = k then ((up S3 y : Nat) : Int) else ((S3 j : Nat) : Int)) = fun j => ((setS S3 k (up S3 y) j : Nat) : Int) := by
                      funext j
                      unfold setS
                      split <;> rfl
                    rwa [h2] at h1, HJ2.out.1.raise HA.out.1 HN.out.1, HL.out.2.trans (hts.below HL.out.2.size fun i e0 => by omega), by omega⟩)
                clear hts hrs hrS hm1 hm2
                generalize up S3 y = v at *
                go_wp2_with fail
                go_roundw
                case rel => exact ⟨j + 1, setS S3 k v, true, by omega, by go_num, rfl, Lib.hid ⟨HE.out.1, HE.out.2.1, HE.out.2.2.1, fun _ => HE.out.2.2.2, fun h => (Bool.noConfusion h)⟩⟩
                case measure => simp [intOf]; omega
              · have hgt' : decide (((S3 k : Nat) : Int) < ((up S3 y : Nat) : Int)) = false := by rw [decide_eq_false_iff_not]; omega
                have hgtN : decide (S3 k < up S3 y) = false := by rw [decide_eq_false_iff_not]; exact hgt
                have HE := Lib.hid (show r3 = false → S3 = S ∧ (∀ i, i < k → ∀ s, Lt.step W i s → up S s ≤ S i) ∧ ∀ s ∈ L.take (j + 1), up S s ≤ S k from fun h => by
                  obtain ⟨h1, h2, h3⟩ := HJ2.out.2.2.2 h
                  refine ⟨h1, h2, fun s hs => ?_⟩
                  rcases HN.out.2.2 s hs with h4 | h4
                  · exact h3 s h4
                  · rw [h4, ← h1]; omega)
                clear hm1 hm2
                generalize up S3 y = v at *
                go_wp2_with fail
                go_roundw
                case rel => exact ⟨j + 1, S3, r3, by omega, by go_num, rfl, Lib.hid ⟨HL.out.1, HJ2.out.1, HL.out.2, HJ2.out.2.2.1, HE.out⟩⟩
                case measure => simp [intOf]; omega
            · have hj' : j = L.length := by omega
              subst hj'
              have HE := Lib.hid (show Line wr w.heap.size n (fun k => ((S3 k : Nat) : Int)) ∧ Low n e S3 ∧ Below w.heap.size w wr ∧ (r3 = true → risen n S < risen n S3) ∧ (r3 = false → S3 = S ∧ ∀ i, i < k + 1 → ∀ s, Lt.step W i s → up S s ≤ S i) from
                ⟨HJ.out.1, HJ.out.2.1, HJ.out.2.2.1, HJ.out.2.2.2.1, fun h => ⟨(HJ.out.2.2.2.2 h).1, fun i hi s hs => by
                  by_cases e0 : i = k
                  · subst e0
                    have := (HJ.out.2.2.2.2 h).2.2 s
                    rw [List.take_length] at this
                    refine this ?_
                    unfold Lt.step at hs
                    rwa [HRW.out.2.1] at hs
                  · exact (HJ.out.2.2.2.2 h).2.1 i (by omega) s hs⟩⟩)
              clear HJ
              go_wp2_with fail
              go_roundw
              case rel => exact ⟨k + 1, S3, r3, by omega, by go_num, rfl, HE⟩
              case measure => simp [intOf]; omega
        · have hk' : k = n := by omega
          subst hk'
          cases r2 with
          | false =>
            have HE := Lib.hid (show Line wr w.heap.size k (fun k => ((S2 k : Nat) : Int)) ∧ Low k e S2 ∧ (false = false → Still W S2) ∧ Below w.heap.size w wr from
              ⟨HK.out.1, HK.out.2.1, fun _ => by
                obtain ⟨h1, h2⟩ := HK.out.2.2.2.2 rfl
                rw [h1]
                intro i s hs
                exact h2 i (HA.out.1.lt hs).1 s hs, HK.out.2.2.1⟩)
            have he := (HK.out.2.2.2.2 rfl).1
            clear HK
            go_wp2_with fail
            go_roundg (2 * (k * k - risen k S2) + (if false then 1 else 0))
            case rel => exact ⟨S2, false, rfl, rfl, Lib.hid ⟨HE.out.1, HE.out.2.1, fun _ => HE.out.2.2.1 trivial, HE.out.2.2.2⟩⟩
            case measure => rw [he]; simp
          | true =>
            have hlt2 := HK.out.2.2.2.1 rfl
            have hmost := risen_le HK.out.2.1 HA.out.2.1
            have HE := Lib.hid (show Line wr w.heap.size k (fun k => ((S2 k : Nat) : Int)) ∧ Low k e S2 ∧ (true = false → Still W S2) ∧ Below w.heap.size w wr from ⟨HK.out.1, HK.out.2.1, fun h => (Bool.noConfusion h), HK.out.2.2.1⟩)
            have hms : 2 * (k * k - risen k S2) + 1 < 2 * (k * k - risen k S) + 1 := by omega
            clear HK hlt2 hmost
            go_wp2_with fail
            go_roundg (2 * (k * k - risen k S2) + (if true then 1 else 0))
            case rel => exact ⟨S2, true, rfl, rfl, HE⟩
            case measure => simpa using hms
end Ly
end Go.Proofs.YtopncohhagebbaaGreatDoor

namespace Go.Proofs.YtopncohhagebbaaGreatDoor
open Go.RowKit
namespace Ly
open Tr (own_open own_slice own_below own_turn IsElem)
open Gr (Ty box1 box2 Lies IsTy)
open Cn (box3)
open Knot (Turns)
open Who (clone_any)
open Lt (It Re relsL Line PiMem tPi tIn elemPi sizePi)

set_option maxHeartbeats 4000000 in
set_option maxRecDepth 100000 in
theorem copiedSpot_any (a b : ByteArray) (ha : a.size ≤ 16) (hb : b.size ≤ 16) (w : World) :
    Calls Tryz.prog 31 #[.agg #[.string a, .string b]] w fun e x => e = .returned (.agg #[.string a, .string b]) ∧ Below w.heap.size w x := by
  obtain ⟨q1, q2, q3, q4⟩ := Gr.two_boxes w #[.string a, .string b] #[.string ⟨#[]⟩, .string ⟨#[]⟩] tSpot tSpot
  have H0 := Lib.hid (And.intro q1 (And.intro q2 (And.intro q3 q4)))
  clear q1 q2 q3 q4
  go_enter Tryz.func31, Tryz.ntmps31
  go_upto_region 1 with fail
  generalize (w.alloc (.cells #[.string a, .string b] tSpot)).alloc (.cells #[.string ⟨#[]⟩, .string ⟨#[]⟩] tSpot) = X at *
  have HX := Lib.hid (show ∀ x, Turns (fun i => i = w.heap.size + 1) X.drew x → x.cell? ⟨w.heap.size, 0, none⟩ = some (.string a) ∧ x.cell? ⟨w.heap.size, 1, none⟩ = some (.string b) from fun x hx => by
    have ht : Turns (fun i => i = w.heap.size + 1) X x := Turns.after_below (F := fun i => i = w.heap.size + 1) ((Below.refl X.heap.size X).drew) hx
    exact box2 (ht.heap H0.out.2.1 (by omega)))
  refine Order.region_begin (S := Turns (fun i => i = w.heap.size + 1) X.drew) (by kernel_rfl) ?_
  refine Order.reads_any (idx := [0, 1, 3, 4]) (by kernel_rfl) (Turns.refl _ _) (fun _ _ _ _ _ h => Order.noPanic_put h) 4 _ _ (by decide +kernel) ?_
  simp only [Order.pick, List.getElem?_toArray, List.getElem?_cons_zero, List.getElem?_cons_succ]
  repeat (first
    | (refine Order.reads_off (by rfl) ?_
       simp only [Act.put, List.setIfInBounds_toArray, List.set_cons_zero, List.set_cons_succ])
    | (apply Order.reads_on
       · rfl
       · intro x hx
         first
           | (go_simp; rfl)
           | (obtain ⟨i1, i2⟩ := HX.out x hx
              go_simp; rfl)
       simp only [Act.put, List.setIfInBounds_toArray, List.set_cons_zero, List.set_cons_succ]))
  refine Order.reads_end ?_
  apply Order.acts_any (R := (Turns (fun i => i = w.heap.size + 1))) (fun h k => h.trans k fun _ _ h => h) (i := 2)
  · rfl
  · decide +kernel
  · rfl
  unfold Oper.wp
  go_simp
  refine Calls.mono (clone_any a _ (by omega)) ?_
  rintro e x1 ⟨rfl, hx1⟩
  refine ⟨Turns.of_below hx1, ?_⟩
  have HV1 := Lib.hid hx1
  clear hx1
  apply Order.acts_any (R := (Turns (fun i => i = w.heap.size + 1))) (fun h k => h.trans k fun _ _ h => h) (i := 5)
  · rfl
  · decide +kernel
  · rfl
  unfold Oper.wp
  go_simp
  refine Calls.mono (clone_any b _ (by omega)) ?_
  rintro e x2 ⟨rfl, hx2⟩
  refine ⟨Turns.of_below hx2, ?_⟩
  have HV2 := Lib.hid ((Below.refl X.heap.size X).drew.trans (HV1.out.trans (hx2.mono HV1.out.size)))
  clear hx2 HV1
  refine Order.reads_any (idx := [6]) (by kernel_rfl) (Turns.refl _ _) (fun _ _ _ _ _ h => Order.noPanic_put h) 1 _ _ (by decide +kernel) ?_
  simp only [Order.pick, List.getElem?_toArray, List.getElem?_cons_zero, List.getElem?_cons_succ]
  repeat (first
    | (refine Order.reads_off (by rfl) ?_
       simp only [Act.put, List.setIfInBounds_toArray, List.set_cons_zero, List.set_cons_succ])
    | (apply Order.reads_on
       · rfl
       · intro x hx
         first
           | (go_simp; rfl)
           | (fail
              go_simp; rfl)
       simp only [Act.put]))
  refine Order.reads_end ?_
  have hk2 := (HV2.out.block _ (by have := H0.out.2.2.2; omega)).trans H0.out.2.2.1
  simp only [List.setIfInBounds_toArray, List.set_cons_zero, List.set_cons_succ]
  apply Order.acts_any (R := (Turns (fun i => i = w.heap.size + 1))) (fun h k => h.trans k fun _ _ h => h) (i := 7)
  · rfl
  · decide +kernel
  · rfl
  simp only [List.getElem_toArray, List.getElem_cons_succ, List.getElem_cons_zero]
  refine wp_fill tSpot (.tmp 2) (.tmp 9) rfl (cells := #[.string a, .string b]) (by rfl) (by rfl) hk2 info_spot rfl (spot_one a b) ?_
  intro Z hZ htZ
  refine ⟨htZ, ?_⟩
  have HF := Lib.hid (show Z.heap[w.heap.size + 1]? = some (.cells #[.string a, .string b] tSpot (0, 0)) ∧ Below w.heap.size w Z from ⟨hZ, (H0.out.1.trans (HV2.out.mono H0.out.1.size)).trans (htZ.below (H0.out.1.trans (HV2.out.mono H0.out.1.size)).size fun k e => by omega)⟩)
  clear hZ htZ hk2 HV2 HX
  refine wpAnyH_done (by decide +kernel) ?_ _
  refine NoPanic.normal ?_
  obtain ⟨g0, g1⟩ := box2 HF.out.1
  go_wp2_with fail
  refine bodyPost_ret (v := .agg #[.string a, .string b]) (by simp [results, Tryz.results31, go_sem, g0, g1]) rfl ⟨rfl, HF.out.2⟩
set_option maxRecDepth 100000 in
theorem items_made : ∃ i z b, IsElem Tryz.prog 27 tPi i z 3 b ∧ b ≤ 100 := by
  refine ⟨_, _, _, ⟨by kernel_rfl, rfl, rfl, by kernel_rfl, rfl, by kernel_rfl, by omega⟩, ?_⟩
  exact of_decide_eq_true (by kernel_rfl)
theorem keep3 {x : World} {g : Nat} {cur : Array Value} {T : TypeId} {o : Nat} {a b c : Value} (h : x.heap[g]? = some (.cells cur T (0, 0))) : (((x.setCell ⟨g, o, none⟩ a).setCell ⟨g, o + 1, none⟩ b).setCell ⟨g, o + 2, none⟩ c).heap[g]? = some (.cells (((cur.setIfInBounds o a).setIfInBounds (o + 1) b).setIfInBounds (o + 2) c) T (0, 0)) :=
  Lib.heap_setCell_same (i := o + 2) (Lib.heap_setCell_same (i := o + 1) (Lib.heap_setCell_same (i := o) h _) _) _
def put3 (x : World) (g o : Nat) (a b : ByteArray) (z : Int) : World := ((x.setCell ⟨g, o, none⟩ (.string a)).setCell ⟨g, o + 1, none⟩ (.string b)).setCell ⟨g, o + 2, none⟩ (.int .i64 z)
theorem put3_turns (x : World) (g o : Nat) (a b : ByteArray) (z : Int) : Turns (fun i => i = g) x (put3 x g o a b z) :=
  (((Turns.refl (fun i => i = g) x).setCell (p := ⟨g, o, none⟩) rfl _).setCell (p := ⟨g, o + 1, none⟩) rfl _).setCell (p := ⟨g, o + 2, none⟩) rfl _
section
variable {l : List Ty} {ao ro : Option Addr} {cap rc b : Nat}
set_option maxHeartbeats 8000000 in
set_option maxRecDepth 100000 in
theorem items_any (hw : Wd l) (w : World) (h : LayAt w l ao ro rc b) (hn : (relsL l).length ≤ 1000) (g0 : Nat) (S : Nat → Int) (hS : Line w g0 (relsL l).length S) :
    Calls Tryz.prog 34 #[layV ao l.length cap ro (relsL l).length rc b, .slice (some ⟨g0, 0, none⟩) (relsL l).length (relsL l).length] w fun e y => ∃ u, e = .returned u ∧ PiMem w.heap.size y u (Lt.items l) S 0 ∧ Below w.heap.size w y := by
  have al := Tr.fresh_one w (.cells #[.slice ao l.length cap, .slice ro (relsL l).length rc, .map (some b)] tLay)
  have hk := heap_alloc_new w (.cells #[.slice ao l.length cap, .slice ro (relsL l).length rc, .map (some b)] tLay)
  have hs1 : (w.alloc (.cells #[.slice ao l.length cap, .slice ro (relsL l).length rc, .map (some b)] tLay)).heap.size = w.heap.size + 1 := by simp
  have HI := Lib.hid (Lt.items_rels l)
  have HA := Lib.hid (And.intro hw (And.intro h hS))
  obtain ⟨ti, tz, tb, TE, hT⟩ := items_made
  have hmk := mk_row TE (by omega) (relsL l).length (by omega)
  have H0 := Lib.hid (And.intro al (And.intro hk hs1))
  have hbig : (relsL l).length ≤ 9223372036854775807 := by omega
  obtain ⟨a0, a1, a2⟩ := box3 hk
  clear hw h hS al hk hs1
  go_enter Tryz.func34, Tryz.ntmps34
  go_upto_region 1 with fail
  generalize w.alloc (.cells #[.slice ao l.length cap, .slice ro (relsL l).length rc, .map (some b)] tLay) = X at *
  generalize hzc : tz.cells = zc at *
  have hzs : (madeCells zc ((relsL l).length * 3)).size = (relsL l).length * 3 := size_madeCells _ _
  generalize madeCells zc ((relsL l).length * 3) = cur0 at *
  have hkM := heap_alloc_new X (.cells cur0 tPi)
  have alM := Tr.fresh_one X (.cells cur0 tPi)
  obtain ⟨m0, m1, m2⟩ := box3 ((alM.block _ (by have := H0.out.2.2; omega)).trans H0.out.2.1)
  have HM := Lib.hid (And.intro hkM (And.intro (H0.out.1.trans (alM.mono H0.out.1.size)) (And.intro ((alM.block _ (by have := H0.out.2.2; omega)).trans H0.out.2.1) (And.intro (show w.heap.size < X.heap.size by have := H0.out.2.2; omega) hzs))))
  clear hkM alM hzs hzc TE hT
  go_upto_region 2 with fail
  clear a0 a1 a2 hmk
  go_wp2_with fail
  clear m0 m1 m2
  generalize X.alloc (.cells cur0 tPi) = Y at *
  generalize X.heap.size = g at *
  go_loopw [15] (fun i wr => ∃ k : Nat, k ≤ (relsL l).length ∧ i = .int .i64 k ∧ Hid (Below w.heap.size w wr ∧ wr.heap[w.heap.size]? = some (.cells #[.slice ao l.length cap, .slice ro (relsL l).length rc, .map (some b)] tLay (0, 0)) ∧
      ∃ cur, wr.heap[g]? = some (.cells cur tPi (0, 0)) ∧ cur.size = (relsL l).length * 3 ∧ ∀ i (hi : i < (relsL l).length), i < k → cur[i * 3]? = some (.string (relsL l)[i].1.1) ∧ cur[i * 3 + 1]? = some (.string (relsL l)[i].1.2) ∧ cur[i * 3 + 2]? = some (.int .i64 (S i)))) (fun i _ => (relsL l).length - (intOf i).toNat)
  case atStart => exact ⟨0, by omega, rfl, Lib.hid ⟨HM.out.2.1, HM.out.2.2.1, cur0, HM.out.1, HM.out.2.2.2.2, fun i hi h => absurd h (Nat.not_lt_zero _)⟩⟩
  case round =>
    obtain ⟨k, hk, rfl, HK⟩ := hrel
    obtain ⟨hbw, hkl, cur, hkg, hcs, hrows⟩ := HK.out
    have HK2 := Lib.hid (And.intro hbw (And.intro hkl (And.intro hkg (And.intro hcs hrows))))
    by_cases hlt : k < (relsL l).length
    · obtain ⟨rvs, hrels⟩ := HA.out.2.1.rels
      obtain ⟨g2, q2, vo, vc, no, nc, ev, us, hix, hg2, ⟨c0, c1, c2, c3, c4, c5, c6, c7, c8⟩, hla, hex⟩ := re_at hrels rc hlt
      obtain ⟨et, eu, rfl⟩ := hex.iface
      have hmem := HA.out.1.mem (List.getElem_mem hlt)
      replace c0 := (hbw.cell (p := ⟨g2, q2, none⟩) hg2).trans c0
      replace c1 := (hbw.cell (p := ⟨g2, q2 + 1, none⟩) hg2).trans c1
      replace c2 := (hbw.cell (p := ⟨g2, q2 + 2, none⟩) hg2).trans c2
      replace c3 := (hbw.cell (p := ⟨g2, q2 + 3, none⟩) hg2).trans c3
      replace c4 := (hbw.cell (p := ⟨g2, q2 + 4, none⟩) hg2).trans c4
      replace c5 := (hbw.cell (p := ⟨g2, q2 + 5, none⟩) hg2).trans c5
      replace c6 := (hbw.cell (p := ⟨g2, q2 + 6, none⟩) hg2).trans c6
      replace c7 := (hbw.cell (p := ⟨g2, q2 + 7, none⟩) hg2).trans c7
      replace c8 := (hbw.cell (p := ⟨g2, q2 + 8, none⟩) hg2).trans c8
      obtain ⟨hgl, cs, -⟩ := line_at HA.out.2.2 hlt
      replace cs := (hbw.cell (p := ⟨g0, k, none⟩) hgl).trans cs
      generalize hrr : (relsL l)[k] = rr at *
      have hkB := heap_alloc_new wr (.cells (reC rr.1.1 rr.1.2 rr.2.name (.slice vo rr.2.allow.length vc) rr.2.expr.kind rr.2.expr.ta rr.2.expr.tb (.slice no rr.2.expr.kids.length nc) (.iface et eu)) tRe)
      have alB := Tr.fresh_one wr (.cells (reC rr.1.1 rr.1.2 rr.2.name (.slice vo rr.2.allow.length vc) rr.2.expr.kind rr.2.expr.ta rr.2.expr.tb (.slice no rr.2.expr.kids.length nc) (.iface et eu)) tRe)
      have hgw := (Array.getElem?_eq_some_iff.1 HK2.out.2.2.1).1
      have HP := Lib.hid (show Below wr.heap.size wr (wr.alloc (.cells (reC rr.1.1 rr.1.2 rr.2.name (.slice vo rr.2.allow.length vc) rr.2.expr.kind rr.2.expr.ta rr.2.expr.tb (.slice no rr.2.expr.kids.length nc) (.iface et eu)) tRe)) ∧ _ ∧ g < wr.heap.size ∧ wr.heap.size < (wr.alloc (.cells (reC rr.1.1 rr.1.2 rr.2.name (.slice vo rr.2.allow.length vc) rr.2.expr.kind rr.2.expr.ta rr.2.expr.tb (.slice no rr.2.expr.kids.length nc) (.iface et eu)) tRe)).heap.size ∧ g0 < w.heap.size from ⟨alB, hkB, hgw, (Array.getElem?_eq_some_iff.1 hkB).1, hgl⟩)
      have HCS := Lib.hid (And.intro cs hmem)
      have hkk : k < (relsL l).length := hlt
      clear hrels hla hex hg2 hkB alB hmem hgw hgl hbw hkl hkg hcs hrows HK cs
      go_upto_region 5 with fail
      clear c0 c1 c2 c3 c4 c5 c6 c7 c8
      generalize wr.alloc (.cells (reC rr.1.1 rr.1.2 rr.2.name (.slice vo rr.2.allow.length vc) rr.2.expr.kind rr.2.expr.ta rr.2.expr.tb (.slice no rr.2.expr.kids.length nc) (.iface et eu)) tRe) = P at *
      generalize hbR : wr.heap.size = bR at *
      have HX := Lib.hid (show ∀ x, Turns (fun i => i = g) P.drew x → (x.cell? ⟨bR, 0, none⟩ = some (.string rr.1.1) ∧ x.cell? ⟨bR, 1, none⟩ = some (.string rr.1.2)) ∧ x.cell? ⟨g0, k, none⟩ = some (.int .i64 (S k)) from fun x hx => by
        have ht : Turns (fun i => i = g) P x := Turns.after_below (F := fun i => i = g) ((Below.refl P.heap.size P).drew) hx
        have ht2 : Turns (fun i => i = g) wr x := Turns.after_below (by rw [hbR]; exact HP.out.1) ht
        have hmg := HM.out.2.2.2.1
        obtain ⟨j0, j1, -⟩ := box9 (ht.heap HP.out.2.1 (by have := HP.out; omega))
        exact ⟨⟨j0, j1⟩, (ht2.cell (p := ⟨g0, k, none⟩) (by have := HP.out; simp only; omega) (by have := HP.out; simp only; omega)).trans HCS.out.1⟩)
      have hix2 : ∀ Z, (Instr.indexAt 27 (.slice (some ⟨g, 0, none⟩) (relsL l).length (relsL l).length) (.int .i64 (k : Int))).run Tryz.prog Z = .ok (.pointer (some ⟨g, k * 3, none⟩)) Z := fun Z => by
        rw [run_indexAt_slice Z _ _ _ _ _ _ elemPi, if_pos ⟨by omega, by omega⟩, sizePi]
        have e : ((k : Int)).toNat = k := by omega
        simp only [Result.andThen_ok, e, Addr.add_lit, Nat.zero_add]
      have hix3 := line_ix g0 hkk
      refine Order.region_begin (S := Turns (fun i => i = g) P.drew) (by kernel_rfl) ?_
      refine Order.reads_any (idx := [0, 1, 2, 3, 4, 6, 7, 8, 10, 11, 12, 13]) (by kernel_rfl) (Turns.refl _ _) (fun _ _ _ _ _ h => Order.noPanic_put h) 5 _ _ (by decide +kernel) ?_
      simp only [Order.pick, List.getElem?_toArray, List.getElem?_cons_zero, List.getElem?_cons_succ]
      repeat (first
        | (refine Order.reads_off (by rfl) ?_
           simp only [Act.put, List.setIfInBounds_toArray, List.set_cons_zero, List.set_cons_succ])
        | (apply Order.reads_on
           · rfl
           · intro x hx
             first
               | (go_simp; rfl)
               | (obtain ⟨⟨i1, i2⟩, i3⟩ := HX.out x hx
                  go_simp; rfl)
           simp only [Act.put, List.setIfInBounds_toArray, List.set_cons_zero, List.set_cons_succ]))
      refine Order.reads_end ?_
      apply Order.acts_any (R := (Turns (fun i => i = g))) (fun h k => h.trans k fun _ _ h => h) (i := 5)
      · rfl
      · decide +kernel
      · rfl
      unfold Oper.wp
      go_simp
      refine Calls.mono (clone_any rr.1.1 _ (by have := HCS.out.2.1; omega)) ?_
      rintro e x1 ⟨rfl, hx1⟩
      refine ⟨Turns.of_below hx1, ?_⟩
      have HV1 := Lib.hid hx1
      clear hx1
      apply Order.acts_any (R := (Turns (fun i => i = g))) (fun h k => h.trans k fun _ _ h => h) (i := 9)
      · rfl
      · decide +kernel
      · rfl
      unfold Oper.wp
      go_simp
      refine Calls.mono (clone_any rr.1.2 _ (by have := HCS.out.2.2.1; omega)) ?_
      rintro e x2 ⟨rfl, hx2⟩
      refine ⟨Turns.of_below hx2, ?_⟩
      have HV2 := Lib.hid (show Below P.heap.size P x2 from (Below.refl _ _).drew.trans (HV1.out.trans (hx2.mono HV1.out.size)))
      clear hx2 HV1 HX
      refine Order.reads_any (idx := [14, 15]) (by kernel_rfl) (Turns.refl _ _) (fun _ _ _ _ _ h => Order.noPanic_put h) 1 _ _ (by decide +kernel) ?_
      simp only [Order.pick, List.getElem?_toArray, List.getElem?_cons_zero, List.getElem?_cons_succ]
      repeat (first
        | (refine Order.reads_off (by rfl) ?_
           simp only [Act.put, List.setIfInBounds_toArray, List.set_cons_zero, List.set_cons_succ])
        | (apply Order.reads_on
           · rfl
           · intro x hx
             first
               | (go_simp; rfl)
               | (fail
                  go_simp; rfl)
           simp only [Act.put, List.setIfInBounds_toArray, List.set_cons_zero, List.set_cons_succ]))
      refine Order.reads_end ?_
      have hbw3 : Below wr.heap.size wr x2 := by rw [hbR]; exact HP.out.1.trans (HV2.out.mono (by have := HP.out; omega))
      have hg3 := (hbw3.block g (by have := HP.out; omega)).trans HK2.out.2.2.1
      have hcz := HK2.out.2.2.2.1
      have z0 : ∃ v, x2.cell? ⟨g, k * 3, none⟩ = some v := ⟨_, by rw [Lib.cell_of_heap hg3]; exact Array.getElem?_eq_getElem (by omega)⟩
      have z1 : ∃ v, x2.cell? ⟨g, k * 3 + 1, none⟩ = some v := ⟨_, by rw [Lib.cell_of_heap hg3]; exact Array.getElem?_eq_getElem (by omega)⟩
      have z2 : ∃ v, x2.cell? ⟨g, k * 3 + 2, none⟩ = some v := ⟨_, by rw [Lib.cell_of_heap hg3]; exact Array.getElem?_eq_getElem (by omega)⟩
      obtain ⟨v0, z0⟩ := z0
      obtain ⟨v1, z1⟩ := z1
      obtain ⟨v2, z2⟩ := z2
      have f0 := Lib.frozen_of_heap hg3 (k * 3)
      have f1 := Lib.frozen_of_heap hg3 (k * 3 + 1)
      have f2 := Lib.frozen_of_heap hg3 (k * 3 + 2)
      have HF := Lib.hid (show Turns (fun i => i = g) x2 (put3 x2 g (k * 3) rr.1.1 rr.1.2 (S k)) ∧ Below w.heap.size w (put3 x2 g (k * 3) rr.1.1 rr.1.2 (S k)) ∧ (put3 x2 g (k * 3) rr.1.1 rr.1.2 (S k)).heap[w.heap.size]? = _ ∧
          ∃ cur, (put3 x2 g (k * 3) rr.1.1 rr.1.2 (S k)).heap[g]? = some (.cells cur tPi (0, 0)) ∧ cur.size = (relsL l).length * 3 ∧ ∀ i (hi : i < (relsL l).length), i < k + 1 → cur[i * 3]? = some (.string (relsL l)[i].1.1) ∧ cur[i * 3 + 1]? = some (.string (relsL l)[i].1.2) ∧ cur[i * 3 + 2]? = some (.int .i64 (S i)) from by
        have hts := put3_turns x2 g (k * 3) rr.1.1 rr.1.2 (S k)
        have hbw := HK2.out.1.trans (hbw3.mono HK2.out.1.size)
        have hmg := HM.out.2.2.2.1
        refine ⟨hts, hbw.trans (hts.below hbw.size fun i e => by omega), hts.heap ((hbw3.block _ (Array.getElem?_eq_some_iff.1 HK2.out.2.1).1).trans HK2.out.2.1) (by omega), _, keep3 hg3, by simp only [Array.size_setIfInBounds]; exact hcz, fun i hi hik => ?_⟩
        simp only [Array.getElem?_setIfInBounds, Array.size_setIfInBounds]
        by_cases e : i = k
        · subst e
          rw [hrr]
          refine ⟨?_, ?_, ?_⟩
          · rw [if_neg (by omega), if_neg (by omega), if_pos rfl, if_pos (by omega)]
          · rw [if_neg (by omega), if_pos rfl, if_pos (by omega)]
          · rw [if_pos rfl, if_pos (by omega)]
        · obtain ⟨h0, h1, h2⟩ := HK2.out.2.2.2.2 i hi (by omega)
          refine ⟨?_, ?_, ?_⟩
          · rw [if_neg (by omega), if_neg (by omega), if_neg (by omega)]; exact h0
          · rw [if_neg (by omega), if_neg (by omega), if_neg (by omega)]; exact h1
          · rw [if_neg (by omega), if_neg (by omega), if_neg (by omega)]; exact h2)
      clear hbw3 hg3 hcz HV2
      apply Order.acts_any (R := (Turns (fun i => i = g))) (fun h k => h.trans k fun _ _ h => h) (i := 16)
      · rfl
      · decide +kernel
      · rfl
      unfold Oper.wp
      go_simp
      refine ⟨HF.out.1, ?_⟩
      refine wpAnyH_done (by decide +kernel) ?_ _
      refine NoPanic.normal ?_
      change Exit.inBlock _ _ _ _ (put3 x2 g (k * 3) rr.1.1 rr.1.2 (S k))
      clear z0 z1 z2 f0 f1 f2
      generalize put3 x2 g (k * 3) rr.1.1 rr.1.2 (S k) = F at *
      go_wp2_with fail
      go_roundw
      case rel => exact ⟨k + 1, by omega, by go_num, HF.out.2⟩
      case measure => simp [intOf]; omega
    · have hk' : k = (relsL l).length := by omega
      subst hk'
      have hnn : (Lt.items l).length = (relsL l).length := (Lt.relsL_len l).symm
      have HR := Lib.hid (show PiMem w.heap.size wr (.slice (some ⟨g, 0, none⟩) (relsL l).length (relsL l).length) (Lt.items l) S 0 ∧ Below w.heap.size w wr from
        ⟨⟨some ⟨g, 0, none⟩, (relsL l).length, by rw [hnn], fun _ => ⟨g, cur, rfl, Nat.le_of_lt HM.out.2.2.2.1, hkg, fun j hj _ => by
          have hj' : j < (relsL l).length := by omega
          have h3 := hrows j hj' hj'
          have e : (Lt.items l)[j] = (relsL l)[j].1 := by
            have : (Lt.items l)[j]? = ((relsL l).map (·.1))[j]? := by rw [HI.out]
            rw [List.getElem?_eq_getElem hj, List.getElem?_map, List.getElem?_eq_getElem hj'] at this
            exact Option.some.inj this
          rw [e]
          exact h3⟩⟩, hbw⟩)
      clear HK HK2 hbw hkl hkg hcs hrows hnn
      go_wp2_with fail
      go_ret
      exact ⟨_, rfl, HR.out.1, HR.out.2⟩
end
end Ly
end Go.Proofs.YtopncohhagebbaaGreatDoor

namespace Go.Proofs.YtopncohhagebbaaGreatDoor
open Go.RowKit
namespace Ly
open Tr (Nd IsExpr node4 none0 size good errOf refs direct RowAt own_open own_slice own_below own_turn IsElem Rf walk_rows Build_any IsNode)
open Gr (Al Rl Ty IsAl IsRl IsTy IsCf Lies cellsV cellsV_append cellsV_one al_at ty_at rl_at new_cells alV box1 box2 box6 two_boxes tRl tTy tCf)
open Cn (box3)
open Knot (Turns NewRow)
open Lt (It Re relsL relsT relsL_take relsT_take relsL_len place Stp)

theorem four_new (w : World) (a b m d : Obj) : Below w.heap.size w ((((w.alloc a).alloc b).alloc m).alloc d) ∧ ((((w.alloc a).alloc b).alloc m).alloc d).heap[w.heap.size]? = some a ∧ ((((w.alloc a).alloc b).alloc m).alloc d).heap[w.heap.size + 1]? = some b ∧
    ((((w.alloc a).alloc b).alloc m).alloc d).heap[w.heap.size + 2]? = some m ∧ ((((w.alloc a).alloc b).alloc m).alloc d).heap[w.heap.size + 3]? = some d ∧ ((((w.alloc a).alloc b).alloc m).alloc d).heap.size = w.heap.size + 4 := by
  have s1 : (w.alloc a).heap.size = w.heap.size + 1 := by simp
  have s2 : ((w.alloc a).alloc b).heap.size = w.heap.size + 2 := by simp
  have s3 : (((w.alloc a).alloc b).alloc m).heap.size = w.heap.size + 3 := by simp
  have n0 := heap_alloc_new w a
  have n1 := heap_alloc_new (w.alloc a) b
  have n2 := heap_alloc_new ((w.alloc a).alloc b) m
  have n3 := heap_alloc_new (((w.alloc a).alloc b).alloc m) d
  have b0 := Tr.fresh_one w a
  have b1 := Tr.fresh_one (w.alloc a) b
  have b2 := Tr.fresh_one ((w.alloc a).alloc b) m
  have b3 := Tr.fresh_one (((w.alloc a).alloc b).alloc m) d
  rw [s1] at n1
  rw [s2] at n2
  rw [s3] at n3
  refine ⟨b0.trans ((b1.trans ((b2.trans (b3.mono b2.size)).mono b1.size)).mono b0.size), ?_, ?_, ?_, n3, by simp⟩
  · exact (b3.block _ (by omega)).trans ((b2.block _ (by omega)).trans ((b1.block _ (by omega)).trans n0))
  · exact (b3.block _ (by omega)).trans ((b2.block _ (by omega)).trans n1)
  · exact (b3.block _ (by omega)).trans n2
theorem Tab.empty {k : TypeId} {x : World} {b : Nat} (h : x.heap[b]? = some (.map #[] 0)) : Tab k x b 0 (fun _ => none) := by
  obtain ⟨D, ⟨es, clock, h1, r⟩, h2⟩ := Tab.made k x
  rw [heap_alloc_new x (.map #[] 0)] at h1
  obtain ⟨rfl, rfl⟩ : #[] = es ∧ 0 = clock := by simpa using h1
  exact ⟨D, ⟨_, _, h, r⟩, h2⟩
def MayL (W : Nat) (rv : Value) (g : Nat) : Prop := (W ≤ g ∧ g < W + 4) ∨ rv.ownBlock = some g
structure Laying (w x : World) (tv rv : Value) (L M : List Re) : Prop where
  box : x.heap[w.heap.size + 3]? = some (.cells #[tv, rv, .map (some (w.heap.size + 2))] tLay (0, 0))
  res : x.heap[w.heap.size + 1]? = some (.cells #[.slice none 0 0, .slice none 0 0, .map none] tLay (0, 0))
  row : ∃ vs, x.ownsRow (w.heap.size + 4) tRe 9 rv L.length (cellsV vs) ∧ vs.length = L.length ∧ ∀ (i : Nat) (a : Re) (u : Value), L[i]? = some a → vs[i]? = some u → u.cells.size = 9 ∧ Off (MayL w.heap.size rv) x fun y => IsRe y a u
  tab : ∃ m, m ≤ M.length ∧ Tab tSpot x (w.heap.size + 2) m (seenF keyRe M)
  old : Below w.heap.size w x
  size : w.heap.size + 4 ≤ x.heap.size
theorem MayL.low {w x : World} {rv : Value} {n : Nat} {xs : List Value} (h : x.ownsRow (w.heap.size + 4) tRe 9 rv n xs) {g : Nat} (hg : MayL w.heap.size rv g) : w.heap.size ≤ g := by
  rcases hg with h1 | h1
  · exact h1.1
  · have := (World.ownsRow.lt h g h1).1; omega
theorem re_one' {t r nm a b : ByteArray} {o1 o2 : Option Addr} {n1 n2 c1 c2 : Nat} {k : Int} {B : Nat} {w : World} {n : Nd} {ev : Value} (h : IsExpr B w n ev) : ∀ u ∈ (reC t r nm (.slice o1 n1 c1) k a b (.slice o2 n2 c2) ev).toList, u.oneCell' = true := fun u hu =>
  Array.all_eq_true_iff_forall_mem.1 (re_one (t := t) (r := r) (nm := nm) (a := a) (b := b) (o1 := o1) (o2 := o2) (n1 := n1) (n2 := n2) (c1 := c1) (c2 := c2) (k := k) h) u (Array.mem_toList_iff.1 hu)
section
variable {w x y : World} {tv rv : Value} {L M : List Re}
theorem Laying.below (h : Laying w x tv rv L M) (hb : Below x.heap.size x y) : Laying w y tv rv L M := by
  obtain ⟨vs, h1, h2, h3⟩ := h.row
  obtain ⟨m, h4, h5⟩ := h.tab
  have hs := h.size
  exact ⟨(hb.block _ (by omega)).trans h.box, (hb.block _ (by omega)).trans h.res, ⟨vs, own_below h1 hb, h2, fun i a u hi hu => ⟨(h3 i a u hi hu).1, (h3 i a u hi hu).2.below hb⟩⟩, ⟨m, h4, h5.below hb⟩, h.old.trans (hb.mono (by omega)), Nat.le_trans hs hb.size⟩
theorem Laying.put (h : Laying w x tv rv L M) {N : List Re} {m : Nat} (hg : x.grownBy y (some (w.heap.size + 2))) (hm : m ≤ N.length) (ht : Tab tSpot y (w.heap.size + 2) m (seenF keyRe N)) : Laying w y tv rv L N := by
  obtain ⟨vs, h1, h2, h3⟩ := h.row
  have hs := h.size
  have hty : Turns (fun k => some (w.heap.size + 2) = some k) x y := Turns.of_grown hg fun k hk => hk
  have hF : ∀ k, some (w.heap.size + 2) = some k → MayL w.heap.size rv k := fun k hk => .inl (by have := Option.some.inj hk; omega)
  refine ⟨hty.heap h.box (fun e => by have := Option.some.inj e; omega), hty.heap h.res (fun e => by have := Option.some.inj e; omega), ⟨vs, own_turn h1 hty (fun k hk e => by have := (World.ownsRow.lt h1 k hk).1; have := Option.some.inj e; omega), h2, fun i a u hi hu => ⟨(h3 i a u hi hu).1, (h3 i a u hi hu).2.turn (hty.mono fun k _ hk => hF k hk)⟩⟩, ⟨m, hm, ht⟩, ?_, Nat.le_trans hs hty.size⟩
  exact h.old.trans (hty.below (by omega) fun k hk => by have := Option.some.inj hk; omega)
theorem Laying.append (h : Laying w x tv rv L M) {X : Re} {B : Nat} {vo no : Option Addr} {vc nc : Nat} {ev : Value} {us : List Value} (hB : w.heap.size + 4 ≤ B) (hrv : ∀ k, rv.ownBlock = some k → k < B)
    (hex : IsExpr B x X.2.expr ev) (hla : Lies IsAl 3 w vo X.2.allow us) {z : World} {v2 : Value} {vs : List Value} (hxy : Below x.heap.size x y)
    (hvs : ∃ _ : vs.length = L.length, ∀ (i : Nat) (a : Re) (u : Value), L[i]? = some a → vs[i]? = some u → u.cells.size = 9 ∧ Off (MayL w.heap.size rv) x fun y => IsRe y a u)
    (ho : z.ownsRow (w.heap.size + 4) tRe 9 v2 (L.length + 1) (cellsV vs ++ (reC X.1.1 X.1.2 X.2.name (.slice vo X.2.allow.length vc) X.2.expr.kind X.2.expr.ta X.2.expr.tb (.slice no X.2.expr.kids.length nc) ev).toList))
    (hg : y.grownBy z rv.ownBlock) (hn : NewRow y rv v2) : Laying w (z.setCell ⟨w.heap.size + 3, 1, none⟩ v2) tv v2 (L ++ [X]) M := by
  obtain ⟨vs0, h1, -, -⟩ := h.row
  obtain ⟨hv, h3⟩ := hvs
  obtain ⟨m, h4, h5⟩ := h.tab
  have hs := h.size
  have hsy := hxy.size
  have hrl : ∀ k, rv.ownBlock = some k → w.heap.size + 4 ≤ k ∧ k < x.heap.size := fun k hk => World.ownsRow.lt h1 k hk
  have ht1 : Turns (fun k => rv.ownBlock = some k) x z := (Turns.of_below (F := fun k => rv.ownBlock = some k) hxy).trans (Turns.of_grown hg fun k hk => hk) fun k _ hk => hk
  have ht2 : Turns (fun k => rv.ownBlock = some k ∨ k = w.heap.size + 3) x (z.setCell ⟨w.heap.size + 3, 1, none⟩ v2) := Turns.setCell (F := fun k => rv.ownBlock = some k ∨ k = w.heap.size + 3) (ht1.mono fun k _ hk => Or.inl hk) (p := ⟨w.heap.size + 3, 1, none⟩) (.inr rfl) _
  have hv2 : ∀ k, v2.ownBlock = some k → rv.ownBlock = some k ∨ x.heap.size ≤ k := fun k hk => by
    rcases hn k hk with h | h
    · exact .inl h
    · exact .inr (by omega)
  have hne2 : ∀ k, v2.ownBlock = some k → w.heap.size + 4 ≤ k := fun k hk => (World.ownsRow.lt ho k hk).1
  have hF : ∀ k, k < x.heap.size → MayL w.heap.size v2 k → MayL w.heap.size rv k := fun k hk hm => by
    rcases hm with hm | hm
    · exact .inl hm
    · rcases hv2 k hm with h | h
      · exact .inr h
      · omega
  have hoff : ∀ {P : World → Prop}, Off (MayL w.heap.size rv) x P → Off (MayL w.heap.size v2) (z.setCell ⟨w.heap.size + 3, 1, none⟩ v2) P := fun hP => hP.grow (ht2.mono fun k _ hk => by
    rcases hk with hk | hk
    · exact .inr hk
    · exact .inl (by omega)) hF
  have hbox := ht1.heap h.box (fun e => by have := hrl _ e; omega)
  have hold : Below w.heap.size w (z.setCell ⟨w.heap.size + 3, 1, none⟩ v2) := h.old.trans (ht2.below (by omega) fun k hk => by
    rcases hk with hk | hk
    · have := hrl k hk; omega
    · omega)
  refine ⟨Lib.heap_setCell_same (i := 1) hbox _, ht2.heap h.res (fun e => by rcases e with e | e; (have := hrl _ e; omega); omega), ⟨vs ++ [.agg (reC X.1.1 X.1.2 X.2.name (.slice vo X.2.allow.length vc) X.2.expr.kind X.2.expr.ta X.2.expr.tb (.slice no X.2.expr.kids.length nc) ev)], ?_, ?_, ?_⟩, ⟨m, h4, h5.turn ht2 (fun e => by rcases e with e | e; (have := hrl _ e; omega); omega)⟩, hold, Nat.le_trans hs ht2.size⟩
  · rw [List.length_append, List.length_singleton, cellsV_append, cellsV_one]
    exact own_turn ho ((Turns.refl (fun k => k = w.heap.size + 3) z).setCell (p := ⟨w.heap.size + 3, 1, none⟩) rfl _) fun k hk e => by have := hne2 k hk; omega
  · rw [List.length_append, List.length_append, hv]; rfl
  · intro i a u hi hu
    by_cases hlt : i < L.length
    · rw [List.getElem?_append_left hlt] at hi
      rw [List.getElem?_append_left (by omega)] at hu
      exact ⟨(h3 i a u hi hu).1, hoff (h3 i a u hi hu).2⟩
    · rw [List.getElem?_append_right (by omega)] at hi
      rw [List.getElem?_append_right (by omega), hv] at hu
      obtain ⟨hi0, rfl⟩ : i - L.length = 0 ∧ X = a := by
        rw [List.getElem?_singleton] at hi
        split at hi
        · exact ⟨by assumption, by simpa using hi⟩
        · cases hi
      rw [hi0] at hu
      obtain rfl : _ = u := by simpa using hu
      refine ⟨rfl, fun x2 hx2 => ?_⟩
      have htt : Turns (fun k => k < B) x x2 := (ht2.mono fun k _ hk => (by
        rcases hk with hk | hk
        · exact hrv k hk
        · omega)).trans hx2 fun k hk hm => by
          rcases hm with hm | hm
          · omega
          · rcases hv2 k hm with h | h
            · exact hrv k h
            · omega
      have hb2 : Below w.heap.size w x2 := hold.trans (hx2.below hold.size fun k hm => by
        rcases hm with hm | hm
        · exact hm.1
        · have := hne2 k hm; omega)
      refine ⟨vo, vc, no, nc, ev, us, rfl, hla.on hb2 fun _ _ h => h, IsExpr.on (Nat.zero_le _) (fun p u hp hc => ?_) (Tr.size X.2.expr) X.2.expr ev (Nat.le_refl _) hex⟩
      exact (htt.cell (World.block_lt_of_cell? x _ hc) (by omega)).trans hc
end
def set3 (y : World) (R : Nat) (a b c : Value) : World := ((y.setCell ⟨R, 0, none⟩ a).setCell ⟨R, 1, none⟩ b).setCell ⟨R, 2, none⟩ c
theorem set3_heap {y : World} {R : Nat} {T : TypeId} {a b c a' b' c' : Value} (h : y.heap[R]? = some (.cells #[a, b, c] T (0, 0))) : (set3 y R a' b' c').heap[R]? = some (.cells #[a', b', c'] T (0, 0)) :=
  Lib.heap_setCell_same (i := 2) (Lib.heap_setCell_same (i := 1) (Lib.heap_setCell_same (i := 0) h _) _) _
theorem set3_turns (y : World) (R : Nat) (a b c : Value) : Turns (fun k => k = R) y (set3 y R a b c) :=
  (((Turns.refl (fun k => k = R) y).setCell (p := ⟨R, 0, none⟩) rfl _).setCell (p := ⟨R, 1, none⟩) rfl _).setCell (p := ⟨R, 2, none⟩) rfl _
theorem Laying.done {w x F : World} {tv : Value} {oo : Option Addr} {oc : Nat} {L : List Re} (h : Laying w x tv (.slice oo L.length oc) L L) (ht : Turns (fun k => k = w.heap.size + 1) x F) :
    (∃ vs, Lies IsRe 9 F oo L vs) ∧ (∃ n, Tab tSpot F (w.heap.size + 2) n (seenF keyRe L)) ∧ L.length ≤ oc ∧ Below w.heap.size w F := by
  obtain ⟨vs, h1, h2, h3⟩ := h.row
  obtain ⟨m, -, h5⟩ := h.tab
  have hs := h.size
  have hrow : F.ownsRow (w.heap.size + 4) tRe 9 (.slice oo L.length oc) L.length (cellsV vs) := own_turn h1 ht fun k hk e => by have := (World.ownsRow.lt h1 k hk).1; omega
  refine ⟨⟨vs, Lies.of_own hrow h2 (fun v hv => ?_) fun i a u hi hu => ?_⟩, ⟨m, h5.turn ht (by omega)⟩, ?_, h.old.trans (ht.below (by omega) fun k hk => by omega)⟩
  · obtain ⟨i, hi, rfl⟩ := List.getElem_of_mem hv
    exact (h3 i L[i] _ (List.getElem?_eq_getElem (by omega)) (List.getElem?_eq_getElem hi)).1
  · exact ((h3 i a u hi hu).2.turn (ht.mono fun k _ hk => .inl (by omega))).now
  · rcases h1.2 with ⟨-, h0⟩ | ⟨g, cap', cur, hv, hb, -, q1, q2, -⟩
    · omega
    · obtain ⟨-, rfl⟩ : oo = some ⟨g, 0, none⟩ ∧ oc = cap' := by simpa using hv
      exact q1
set_option maxHeartbeats 16000000 in
set_option maxRecDepth 100000 in
theorem laid_any (l : List Ty) (hw : Wd l) (ao : Option Addr) (cap : Nat) (us : List Value) (w : World) (hl : Lies IsTy 2 w ao l us) (hn : (Lt.items l).length ≤ 1000) :
    Calls Tryz.prog 29 #[.agg #[.slice ao l.length cap]] w fun e y => ∃ ro rc b, e = .returned (layV ao l.length cap ro (relsL l).length rc b) ∧ LayAt y l ao ro rc b ∧ Below w.heap.size w y := by
  obtain ⟨q1, q2, q3, q4, q5, q6⟩ := four_new w (.cells #[.slice ao l.length cap] tCf) (.cells #[.slice none 0 0, .slice none 0 0, .map none] tLay) (.map #[] 0) (.cells #[.slice ao l.length cap, .slice none 0 0, .map (some (w.heap.size + 2))] tLay)
  have hmm := @run_makeMap Tryz.prog
  have hbig : l.length ≤ 9223372036854775807 := hl.big
  have HA := Lib.hid (And.intro hw (And.intro hl hn))
  have a0 := box1 q2
  go_enter Tryz.func29, Tryz.ntmps29
  go_upto_region 2 with fail
  rw [show w.heap.size + 1 + 1 + 1 = w.heap.size + 3 from rfl, show w.heap.size + 1 + 1 = w.heap.size + 2 from rfl]
  generalize (((w.alloc (.cells #[.slice ao l.length cap] tCf)).alloc (.cells #[.slice none 0 0, .slice none 0 0, .map none] tLay)).alloc (.map #[] 0)).alloc (.cells #[.slice ao l.length cap, .slice none 0 0, .map (some (w.heap.size + 2))] tLay) = X at *
  have hL0 : Laying w X (.slice ao l.length cap) (.slice none 0 0) [] [] := ⟨q5, q3, ⟨[], World.ownsRow_nil _ _ _ _, rfl, fun i a u hi => by simp at hi⟩, ⟨0, Nat.le_refl _, Tab.empty q4⟩, q1, by omega⟩
  have HL0 := Lib.hid hL0
  have HC0 := Lib.hid q2
  clear hw hl hn hL0 q1 q3 q4 q5 q6 hmm q2 a0
  have a0 := box1 HC0.out
  go_wp2_with fail
  clear a0
  go_loopw [18] (fun i wr => ∃ j : Nat, j ≤ l.length ∧ i = .int .i64 j ∧ ∃ rv, Hid (Laying w wr (.slice ao l.length cap) rv (relsL (l.take j)) (relsL (l.take j)))) (fun i _ => l.length - (intOf i).toNat)
  case atStart => exact ⟨0, by omega, rfl, _, HL0⟩
  case round =>
    obtain ⟨j, hj, rfl, rv, HJ⟩ := hrel
    by_cases hlt : j < l.length
    · obtain ⟨g, q, tro, trc, tvs, hix, hg, c0', c1', hlaT⟩ := ty_at HA.out.2.1 cap hlt
      have c0 := (HJ.out.old.cell (p := ⟨g, q, none⟩) hg).trans c0'
      have c1 := (HJ.out.old.cell (p := ⟨g, q + 1, none⟩) hg).trans c1'
      have htk := relsL_take hlt
      have htm : l[j] ∈ l := List.getElem_mem hlt
      have hpart := Lt.items_part l (j + 1)
      rw [← relsL_len, htk, List.length_append, show (relsT l[j]).length = l[j].rels.length from List.length_map _] at hpart
      generalize l[j] = t at *
      have hbt : t.rels.length ≤ 9223372036854775807 := hlaT.big
      have hk1 := heap_alloc_new wr (.cells #[.string t.name, .slice tro t.rels.length trc] tTy)
      have al1 := Tr.fresh_one wr (.cells #[.string t.name, .slice tro t.rels.length trc] tTy)
      obtain ⟨vs0, hro, -⟩ := HJ.out.row
      have HT := Lib.hid (And.intro htm (And.intro hlaT (And.intro htk hpart)))
      have HK0 := Lib.hid (show Laying w (wr.alloc (.cells #[.string t.name, .slice tro t.rels.length trc] tTy)) (.slice ao l.length cap) rv (relsL (l.take j)) (relsL (l.take j)) ∧ (wr.alloc (.cells #[.string t.name, .slice tro t.rels.length trc] tTy)).heap[wr.heap.size]? = _ ∧ rv.ownBlock ≠ some wr.heap.size from
        ⟨HJ.out.below al1, hk1, fun e => by have := (World.ownsRow.lt hro _ e).2; omega⟩)
      have hws := HJ.out.size
      have HWS := Lib.hid hws
      have HBT0 := Lib.hid (show w.heap.size + 4 ≤ wr.heap.size from hws)
      clear c0' c1' hg hlaT htm htk hpart hk1 al1 hro hws
      go_upto_region 5 with fail
      clear c0 c1
      generalize wr.alloc (.cells #[.string t.name, .slice tro t.rels.length trc] tTy) = Y at *
      generalize wr.heap.size = bt at *
      obtain ⟨k0, k1⟩ := box2 HK0.out.2.1
      go_wp2_with fail
      clear k0 k1
      generalize relsL (l.take j) = L at *
      go_loopw [25] (fun i wr => ∃ k : Nat, k ≤ t.rels.length ∧ i = .int .i64 k ∧ ∃ rv, Hid (Laying w wr (.slice ao l.length cap) rv (L ++ relsT ⟨t.name, t.rels.take k⟩) (L ++ relsT ⟨t.name, t.rels.take k⟩) ∧ wr.heap[bt]? = some (.cells #[.string t.name, .slice tro t.rels.length trc] tTy (0, 0)) ∧ rv.ownBlock ≠ some bt)) (fun i _ => t.rels.length - (intOf i).toNat)
      case atStart => exact ⟨0, by omega, rfl, rv, Lib.hid (by simpa [relsT] using HK0.out)⟩
      case round =>
        clear HJ HK0 rv
        obtain ⟨k, hk, rfl, rv, HK⟩ := hrel
        by_cases hkt : k < t.rels.length
        · obtain ⟨g2, q2, vo, vc, no, nc, vus, hix2, hg2, d0', d1', d2', d3', d4', d5', hla, hnd⟩ := rl_at HT.out.2.1 trc hkt
          obtain ⟨vs1, hrow1, hvl1, hel1⟩ := HK.out.1.row
          obtain ⟨oo, oc, rfl⟩ := own_slice hrow1
          have hold := HK.out.1.old
          have d0 := (hold.cell (p := ⟨g2, q2, none⟩) hg2).trans d0'
          have d1 := (hold.cell (p := ⟨g2, q2 + 1, none⟩) hg2).trans d1'
          have d2 := (hold.cell (p := ⟨g2, q2 + 2, none⟩) hg2).trans d2'
          have d3 := (hold.cell (p := ⟨g2, q2 + 3, none⟩) hg2).trans d3'
          have d4 := (hold.cell (p := ⟨g2, q2 + 4, none⟩) hg2).trans d4'
          have d5 := (hold.cell (p := ⟨g2, q2 + 5, none⟩) hg2).trans d5'
          have htk := relsT_take t hkt
          have hsz := HA.out.1.rel t HT.out.1 _ (List.getElem_mem hkt)
          have hex := HA.out.1.expr t HT.out.1 _ (List.getElem_mem hkt)
          have hlen : (L ++ relsT ⟨t.name, t.rels.take k⟩).length ≤ 100000 := by
            have h1 := HT.out.2.2.2
            have h2 := HA.out.2.2
            rw [List.length_append, relsT, List.length_map, List.length_take]
            omega
          generalize t.rels[k] = r at *
          generalize hLL : L ++ relsT ⟨t.name, t.rels.take k⟩ = LL at *
          have htk2 : L ++ relsT ⟨t.name, t.rels.take (k + 1)⟩ = LL ++ [((t.name, r.name), r)] := by rw [htk, ← List.append_assoc, hLL]
          -- the two boxes
          obtain ⟨p1, p2, p3, p4⟩ := two_boxes wr #[.string r.name, .slice vo r.allow.length vc, .int .i64 r.expr.kind, .string r.expr.ta, .string r.expr.tb, .slice no r.expr.kids.length nc] #[.string t.name, .string r.name] tRl tSpot
          have HQ2 := Lib.hid (show Laying w _ _ _ _ _ ∧ _ ∧ _ ∧ _ from ⟨HK.out.1.below p1, (p1.block _ (Array.getElem?_eq_some_iff.1 HK.out.2.1).1).trans HK.out.2.1, p2, p3⟩)
          obtain ⟨kb0, kb1⟩ := box2 HK.out.2.1
          have kc0 := ((Tr.fresh_one wr (.cells #[.string r.name, .slice vo r.allow.length vc, .int .i64 r.expr.kind, .string r.expr.ta, .string r.expr.tb, .slice no r.expr.kids.length nc] tRl)).cell (p := ⟨bt, 0, none⟩) (Array.getElem?_eq_some_iff.1 HK.out.2.1).1).trans kb0
          have kr := heap_alloc_new wr (.cells #[.string r.name, .slice vo r.allow.length vc, .int .i64 r.expr.kind, .string r.expr.ta, .string r.expr.tb, .slice no r.expr.kids.length nc] tRl)
          obtain ⟨kr0, -⟩ := box6 kr
          have HR := Lib.hid (And.intro hla (And.intro hnd (And.intro hsz (And.intro htk2 hex))))
          have HP4 := Lib.hid (And.intro p4 (And.intro (Array.getElem?_eq_some_iff.1 HK.out.2.1).1 (And.intro HBT0.out HK.out.2.2)))
          clear hrow1 hvl1 hel1 d0' d1' d2' d3' d4' d5' hla hnd hsz hex hold hg2 p1 p2 p3 p4 htk htk2 hLL kr
          go_upto_region 9 with fail
          clear kb0 kb1 kc0 kr0 d0 d1 d2 d3 d4 d5
          generalize (wr.alloc (.cells #[.string r.name, .slice vo r.allow.length vc, .int .i64 r.expr.kind, .string r.expr.ta, .string r.expr.tb, .slice no r.expr.kids.length nc] tRl)).alloc (.cells #[.string t.name, .string r.name] tSpot) = Q2 at *
          obtain ⟨b0, b1, b2⟩ := box3 HQ2.out.1.box
          obtain ⟨e0, e1, f0, f1⟩ := box2s HQ2.out.2.2.2
          obtain ⟨m, hm, htab⟩ := HQ2.out.1.tab
          have HC := Lib.hid (hasT_any (tv := .slice ao l.length cap) (rv := .slice oo LL.length oc) (seenF keyRe LL) Q2 htab t.name r.name (Nat.le_trans (HA.out.1.ty t HT.out.1) (by decide)) (Nat.le_trans HR.out.2.2.1.1 (by decide)))
          clear htab
          cases hse : (seenF keyRe LL (.agg #[.string t.name, .string r.name])).isSome with
          | true =>
            rw [hse] at HC
            have hold2 := seen_old (κ := keyRe) (l := LL) (x := ((t.name, r.name), r)) hse
            have HSE := Lib.hid hold2
            clear hse hold2
            go_wp2_with fail
            refine HC.out.mono ?_
            rintro e Q4 ⟨rfl, hx⟩
            have HQ4 := Lib.hid (show Laying w Q4 (.slice ao l.length cap) (.slice oo LL.length oc) LL (LL ++ [((t.name, r.name), r)]) ∧ Q4.heap[bt]? = _ ∧ Q4.heap[wr.heap.size]? = _ ∧ Q4.heap[wr.heap.size + 1]? = _ from by
              have h1 := HQ2.out.1.below hx
              refine ⟨⟨h1.box, h1.res, h1.row, ?_, h1.old, h1.size⟩, (hx.block _ (Array.getElem?_eq_some_iff.1 HQ2.out.2.1).1).trans HQ2.out.2.1, (hx.block _ (Array.getElem?_eq_some_iff.1 HQ2.out.2.2.1).1).trans HQ2.out.2.2.1, (hx.block _ (Array.getElem?_eq_some_iff.1 HQ2.out.2.2.2).1).trans HQ2.out.2.2.2⟩
              obtain ⟨m, hm, ht⟩ := h1.tab
              exact ⟨m, by rw [List.length_append]; omega, by rw [HSE.out]; exact ht⟩)
            clear hx HC HQ2 b0 b1 b2 e0 e1 f0 f1
            have HBu := Lib.hid (Build_any r.expr _ Q4 (Nat.le_trans HR.out.2.2.2.2.2.2 (by decide)) (HR.out.2.1.below HQ4.out.1.old))
            obtain ⟨k0, k1, k2, k3, k4, k5⟩ := box6 HQ4.out.2.2.1
            go_wp2_with fail
            refine HBu.out.mono ?_
            rintro e Q5 ⟨hx, hbu⟩
            rcases hbu with ⟨hne, -⟩ | ⟨-, u, rfl, hexu⟩
            · exact absurd HR.out.2.2.2.2.2.1 hne
            obtain ⟨et, eu, rfl⟩ := hexu.iface
            have HQ5 := Lib.hid (show Laying w Q5 _ _ LL (LL ++ [((t.name, r.name), r)]) ∧ Q5.heap[bt]? = _ ∧ Q5.heap[wr.heap.size]? = _ ∧ Q5.heap[wr.heap.size + 1]? = _ from ⟨HQ4.out.1.below hx, (hx.block _ (Array.getElem?_eq_some_iff.1 HQ4.out.2.1).1).trans HQ4.out.2.1, (hx.block _ (Array.getElem?_eq_some_iff.1 HQ4.out.2.2.1).1).trans HQ4.out.2.2.1, (hx.block _ (Array.getElem?_eq_some_iff.1 HQ4.out.2.2.2).1).trans HQ4.out.2.2.2⟩)
            obtain ⟨vs, hrow, hvl, hel⟩ := HQ5.out.1.row
            obtain ⟨vs4, hrow4, -, -⟩ := HQ4.out.1.row
            have HB4 := Lib.hid (show w.heap.size + 4 ≤ Q4.heap.size ∧ ∀ k, (Value.slice oo LL.length oc).ownBlock = some k → k < Q4.heap.size from ⟨HQ4.out.1.size, fun k hk => (World.ownsRow.lt hrow4 k hk).2⟩)
            have al := Tr.fresh_one Q5 (.cells (reC t.name r.name r.name (.slice vo r.allow.length vc) r.expr.kind r.expr.ta r.expr.tb (.slice no r.expr.kids.length nc) (.iface et eu)) tRe)
            have hnew := new_cells Q5 tRe (reC t.name r.name r.name (.slice vo r.allow.length vc) r.expr.kind r.expr.ta r.expr.tb (.slice no r.expr.kids.length nc) (.iface et eu)).toList rfl
            have HH := Lib.hid (And.intro hexu (And.intro hvl (And.intro hel al)))
            have HO := Lib.hid (And.intro (own_below hrow al) (And.intro (Nat.le_trans HQ5.out.1.size al.size) hnew))
            have hnq := HQ5.out.1.size
            obtain ⟨c0, c1, c2⟩ := box3 ((al.block _ (by omega)).trans HQ5.out.1.box)
            obtain ⟨l0, l1, l2⟩ := box3 HQ5.out.1.box
            have hbtl := (Array.getElem?_eq_some_iff.1 HQ5.out.2.1).1
            clear k0 k1 k2 k3 k4 k5
            obtain ⟨k0, k1, k2, k3, k4, k5⟩ := box6 HQ5.out.2.2.1
            obtain ⟨s0, s1, -, -⟩ := box2s HQ5.out.2.2.2
            obtain ⟨ti, tz, tb, TE, hT⟩ := res_elem
            have HTE := Lib.hid (And.intro TE hT)
            clear hx HBu hrow hrow4 hvl hel al hnew hexu TE hT
            go_wp2_with (at_builtin; refine walk_rows HTE.out.1 rfl _ _ rfl rfl rfl HO.out.1 HO.out.2.1 (m := 1) rfl HO.out.2.2 (re_one' HH.out.1) (by omega) (Nat.le_trans (Nat.mul_le_mul_left _ HTE.out.2) (by omega)) ?_)
            intro v2 z2 r2 gr2 n2
            obtain ⟨v2a, v2c, rfl⟩ := own_slice r2
            have hz2 : Turns (fun k => (Value.slice oo LL.length oc).ownBlock = some k) _ z2 := Turns.of_grown gr2 fun k hk => hk
            have hlow : ∀ k, (Value.slice oo LL.length oc).ownBlock = some k → w.heap.size + 4 ≤ k := fun k hk => (World.ownsRow.lt HO.out.1 k hk).1
            have hbx2 := hz2.heap ((HH.out.2.2.2.block _ (by omega)).trans HQ5.out.1.box) (fun e => by have := hlow _ e; omega)
            have hfz := Lib.frozen_of_heap hbx2 1
            obtain ⟨m0, m1, m2⟩ := box3 hbx2
            have HLay2 := Lib.hid (HQ5.out.1.append (X := ((t.name, r.name), r)) (vc := vc) (nc := nc) HB4.out.1 HB4.out.2 HH.out.1 (HR.out.1.on (Below.refl _ _) fun _ _ h => h) HH.out.2.2.2 ⟨HH.out.2.1, HH.out.2.2.1⟩ r2 gr2 n2)
            have hbt2 := hz2.heap ((HH.out.2.2.2.block _ hbtl).trans HQ5.out.2.1) (fun e => HP4.out.2.2.2 e)
            have HBT := Lib.hid (show (z2.setCell ⟨w.heap.size + 3, 1, none⟩ (.slice v2a (LL.length + 1) v2c)).heap[bt]? = some (.cells #[.string t.name, .slice tro t.rels.length trc] tTy (0, 0)) ∧ (Value.slice v2a (LL.length + 1) v2c).ownBlock ≠ some bt from
              ⟨(Below.heap_setCell _ _ _ _ (by have := HP4.out.2.2.1; simp only; omega)).trans hbt2, fun e => by
                rcases n2 _ e with h1 | h1
                · exact HP4.out.2.2.2 h1
                · exact absurd (Nat.lt_of_lt_of_le hbtl (Nat.le_trans HH.out.2.2.2.size h1)) (Nat.lt_irrefl _)⟩)
            clear r2 gr2 n2 hz2 hlow hbx2 hbt2 k0 k1 k2 k3 k4 k5 s0 s1 c0 c1 c2 l0 l1 l2
            go_wp2_with fail
            go_roundw
            case rel => exact ⟨k + 1, by omega, by go_num, _, Lib.hid ⟨by rw [HR.out.2.2.2.1]; exact HLay2.out, HBT.out⟩⟩
            case measure => simp [intOf]; omega
          | false =>
            rw [hse] at HC
            have hput := seen_put (κ := keyRe) (l := LL) (x := ((t.name, r.name), r)) hse
            have HSE := Lib.hid hput
            clear hse hput
            go_wp2_with fail
            refine HC.out.mono ?_
            rintro e Q3 ⟨rfl, hx⟩
            have HQ3 := Lib.hid (show Laying w Q3 (.slice ao l.length cap) (.slice oo LL.length oc) LL LL ∧ Q3.heap[bt]? = _ ∧ Q3.heap[wr.heap.size]? = _ ∧ Q3.heap[wr.heap.size + 1]? = _ from
              ⟨HQ2.out.1.below hx, (hx.block _ (Array.getElem?_eq_some_iff.1 HQ2.out.2.1).1).trans HQ2.out.2.1, (hx.block _ (Array.getElem?_eq_some_iff.1 HQ2.out.2.2.1).1).trans HQ2.out.2.2.1, (hx.block _ (Array.getElem?_eq_some_iff.1 HQ2.out.2.2.2).1).trans HQ2.out.2.2.2⟩)
            clear hx HC b0 b1 b2 e0 e1 f0 f1
            obtain ⟨b0, b1, b2⟩ := box3 HQ3.out.1.box
            obtain ⟨e0, e1, f0, f1⟩ := box2s HQ3.out.2.2.2
            obtain ⟨m3, hm3, ht3⟩ := HQ3.out.1.tab
            have HT3 := Lib.hid (And.intro ht3 (okP (Nat.le_trans (HA.out.1.ty t HT.out.1) (show 16 ≤ maxLen by decide)) (Nat.le_trans HR.out.2.2.1.1 (show 16 ≤ maxLen by decide))))
            clear ht3 HQ2
            go_wp2_with (at_mapUpdate; refine walk_put rfl _ _ _ rfl HT3.out.1 keyP mapP (by omega) rfl rfl rfl HT3.out.2 (by omega) (g := seenF keyRe (LL ++ [((t.name, r.name), r)])) ⟨HSE.out.1, fun u _ hu => HSE.out.2 u hu⟩ ?_)
            intro Q4 ht4 hg4
            have HQ4 := Lib.hid (show Laying w Q4 (.slice ao l.length cap) (.slice oo LL.length oc) LL (LL ++ [((t.name, r.name), r)]) ∧ Q4.heap[bt]? = _ ∧ Q4.heap[wr.heap.size]? = _ ∧ Q4.heap[wr.heap.size + 1]? = _ from by
              have hty : Turns (fun k => some (w.heap.size + 2) = some k) Q3 Q4 := Turns.of_grown hg4 fun k hk => hk
              have hs4 := HP4.out.2.2.1
              have hs5 := HP4.out.2.1
              have hs6 := HWS.out
              exact ⟨HQ3.out.1.put hg4 (by rw [List.length_append, List.length_singleton]; omega) ht4, hty.heap HQ3.out.2.1 (fun e => by have := Option.some.inj e; omega), hty.heap HQ3.out.2.2.1 (fun e => by have := Option.some.inj e; omega), hty.heap HQ3.out.2.2.2 (fun e => by have := Option.some.inj e; omega)⟩)
            clear ht4 hg4 HT3 HQ3 b0 b1 b2 e0 e1 f0 f1
            have HBu := Lib.hid (Build_any r.expr _ Q4 (Nat.le_trans HR.out.2.2.2.2.2.2 (by decide)) (HR.out.2.1.below HQ4.out.1.old))
            obtain ⟨k0, k1, k2, k3, k4, k5⟩ := box6 HQ4.out.2.2.1
            go_wp2_with fail
            refine HBu.out.mono ?_
            rintro e Q5 ⟨hx, hbu⟩
            rcases hbu with ⟨hne, -⟩ | ⟨-, u, rfl, hexu⟩
            · exact absurd HR.out.2.2.2.2.2.1 hne
            obtain ⟨et, eu, rfl⟩ := hexu.iface
            have HQ5 := Lib.hid (show Laying w Q5 _ _ LL (LL ++ [((t.name, r.name), r)]) ∧ Q5.heap[bt]? = _ ∧ Q5.heap[wr.heap.size]? = _ ∧ Q5.heap[wr.heap.size + 1]? = _ from ⟨HQ4.out.1.below hx, (hx.block _ (Array.getElem?_eq_some_iff.1 HQ4.out.2.1).1).trans HQ4.out.2.1, (hx.block _ (Array.getElem?_eq_some_iff.1 HQ4.out.2.2.1).1).trans HQ4.out.2.2.1, (hx.block _ (Array.getElem?_eq_some_iff.1 HQ4.out.2.2.2).1).trans HQ4.out.2.2.2⟩)
            obtain ⟨vs, hrow, hvl, hel⟩ := HQ5.out.1.row
            obtain ⟨vs4, hrow4, -, -⟩ := HQ4.out.1.row
            have HB4 := Lib.hid (show w.heap.size + 4 ≤ Q4.heap.size ∧ ∀ k, (Value.slice oo LL.length oc).ownBlock = some k → k < Q4.heap.size from ⟨HQ4.out.1.size, fun k hk => (World.ownsRow.lt hrow4 k hk).2⟩)
            have al := Tr.fresh_one Q5 (.cells (reC t.name r.name r.name (.slice vo r.allow.length vc) r.expr.kind r.expr.ta r.expr.tb (.slice no r.expr.kids.length nc) (.iface et eu)) tRe)
            have hnew := new_cells Q5 tRe (reC t.name r.name r.name (.slice vo r.allow.length vc) r.expr.kind r.expr.ta r.expr.tb (.slice no r.expr.kids.length nc) (.iface et eu)).toList rfl
            have HH := Lib.hid (And.intro hexu (And.intro hvl (And.intro hel al)))
            have HO := Lib.hid (And.intro (own_below hrow al) (And.intro (Nat.le_trans HQ5.out.1.size al.size) hnew))
            have hnq := HQ5.out.1.size
            obtain ⟨c0, c1, c2⟩ := box3 ((al.block _ (by omega)).trans HQ5.out.1.box)
            obtain ⟨l0, l1, l2⟩ := box3 HQ5.out.1.box
            have hbtl := (Array.getElem?_eq_some_iff.1 HQ5.out.2.1).1
            clear k0 k1 k2 k3 k4 k5
            obtain ⟨k0, k1, k2, k3, k4, k5⟩ := box6 HQ5.out.2.2.1
            obtain ⟨s0, s1, -, -⟩ := box2s HQ5.out.2.2.2
            obtain ⟨ti, tz, tb, TE, hT⟩ := res_elem
            have HTE := Lib.hid (And.intro TE hT)
            clear hx HBu hrow hrow4 hvl hel al hnew hexu TE hT
            go_wp2_with (at_builtin; refine walk_rows HTE.out.1 rfl _ _ rfl rfl rfl HO.out.1 HO.out.2.1 (m := 1) rfl HO.out.2.2 (re_one' HH.out.1) (by omega) (Nat.le_trans (Nat.mul_le_mul_left _ HTE.out.2) (by omega)) ?_)
            intro v2 z2 r2 gr2 n2
            obtain ⟨v2a, v2c, rfl⟩ := own_slice r2
            have hz2 : Turns (fun k => (Value.slice oo LL.length oc).ownBlock = some k) _ z2 := Turns.of_grown gr2 fun k hk => hk
            have hlow : ∀ k, (Value.slice oo LL.length oc).ownBlock = some k → w.heap.size + 4 ≤ k := fun k hk => (World.ownsRow.lt HO.out.1 k hk).1
            have hbx2 := hz2.heap ((HH.out.2.2.2.block _ (by omega)).trans HQ5.out.1.box) (fun e => by have := hlow _ e; omega)
            have hfz := Lib.frozen_of_heap hbx2 1
            obtain ⟨m0, m1, m2⟩ := box3 hbx2
            have HLay2 := Lib.hid (HQ5.out.1.append (X := ((t.name, r.name), r)) (vc := vc) (nc := nc) HB4.out.1 HB4.out.2 HH.out.1 (HR.out.1.on (Below.refl _ _) fun _ _ h => h) HH.out.2.2.2 ⟨HH.out.2.1, HH.out.2.2.1⟩ r2 gr2 n2)
            have hbt2 := hz2.heap ((HH.out.2.2.2.block _ hbtl).trans HQ5.out.2.1) (fun e => HP4.out.2.2.2 e)
            have HBT := Lib.hid (show (z2.setCell ⟨w.heap.size + 3, 1, none⟩ (.slice v2a (LL.length + 1) v2c)).heap[bt]? = some (.cells #[.string t.name, .slice tro t.rels.length trc] tTy (0, 0)) ∧ (Value.slice v2a (LL.length + 1) v2c).ownBlock ≠ some bt from
              ⟨(Below.heap_setCell _ _ _ _ (by have := HP4.out.2.2.1; simp only; omega)).trans hbt2, fun e => by
                rcases n2 _ e with h1 | h1
                · exact HP4.out.2.2.2 h1
                · exact absurd (Nat.lt_of_lt_of_le hbtl (Nat.le_trans HH.out.2.2.2.size h1)) (Nat.lt_irrefl _)⟩)
            clear r2 gr2 n2 hz2 hlow hbx2 hbt2 k0 k1 k2 k3 k4 k5 s0 s1 c0 c1 c2 l0 l1 l2
            go_wp2_with fail
            go_roundw
            case rel => exact ⟨k + 1, by omega, by go_num, _, Lib.hid ⟨by rw [HR.out.2.2.2.1]; exact HLay2.out, HBT.out⟩⟩
            case measure => simp [intOf]; omega
        · have hk' : k = t.rels.length := by omega
          subst hk'
          have hr := HK.out.1
          rw [List.take_length] at hr
          have HR := Lib.hid hr
          clear hr
          go_wp2_with fail
          go_roundw
          case rel => exact ⟨j + 1, by omega, by go_num, _, Lib.hid (by rw [HT.out.2.2.1]; exact HR.out)⟩
          case measure => simp [intOf]; omega
    · have hj' : j = l.length := by omega
      subst hj'
      have hr := HJ.out
      rw [List.take_length] at hr
      obtain ⟨b0, b1, b2⟩ := box3 hr.box
      obtain ⟨e0, e1, e2⟩ := box3 hr.res
      have f0 := Lib.frozen_of_heap hr.res 0
      have f1 := Lib.frozen_of_heap hr.res 1
      have f2 := Lib.frozen_of_heap hr.res 2
      obtain ⟨vs, hrow, hvl, hel⟩ := hr.row
      obtain ⟨oo, oc, rfl⟩ := own_slice hrow
      have HR := Lib.hid hr
      clear HJ hr hrow hvl hel
      go_wp2_with fail
      change bodyPost _ _ _ _ _ (set3 wr (w.heap.size + 1) (.slice ao l.length cap) (.slice oo (relsL l).length oc) (.map (some (w.heap.size + 2))))
      have hkF := set3_heap (a' := .slice ao l.length cap) (b' := .slice oo (relsL l).length oc) (c' := .map (some (w.heap.size + 2))) HR.out.res
      have HD := Lib.hid (HR.out.done (set3_turns wr (w.heap.size + 1) (.slice ao l.length cap) (.slice oo (relsL l).length oc) (.map (some (w.heap.size + 2)))))
      generalize set3 wr (w.heap.size + 1) (.slice ao l.length cap) (.slice oo (relsL l).length oc) (.map (some (w.heap.size + 2))) = F at *
      obtain ⟨g0, g1, g2⟩ := box3 hkF
      refine bodyPost_ret (v := layV ao l.length cap oo (relsL l).length oc (w.heap.size + 2)) (by simp [results, Tryz.results29, go_sem, g0, g1, g2]) rfl ⟨oo, oc, w.heap.size + 2, rfl, ⟨⟨us, HA.out.2.1.on HD.out.2.2.2 fun _ _ h => h.below HD.out.2.2.2⟩, HD.out.1, HD.out.2.1, HD.out.2.2.1⟩, HD.out.2.2.2⟩
end Ly
end Go.Proofs.YtopncohhagebbaaGreatDoor
