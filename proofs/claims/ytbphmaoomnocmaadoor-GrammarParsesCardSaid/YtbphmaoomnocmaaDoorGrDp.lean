/-
  Layer 7's document: Parse.
-/
import Derived.Test.YtbphmaoomnocmaaDoorGrDcf
import Derived.Test.YtbphmaoomnocmaaDoorGrDe
namespace Go.Proofs.YtbphmaoomnocmaaDoor
open Go.RowKit
namespace Gr
open Knot (Turns NewRow)
open Tr (Nd none0 node4 own_slice Box4)
open Sg (Tok kt TokAt txt toksC toksC_at RLexOut rlex_any)

theorem CfS.turn {F : Nat → Prop} {w x : World} {B : Nat} {l : List Ty} {v : Value} (h : CfS w B l v) (ht : Turns F w x) (hF : ∀ g, B ≤ g → g < w.heap.size → ¬ F g) : CfS x B l v := by
  obtain ⟨ao, cap, e, hr⟩ := h
  exact ⟨ao, cap, e, hr.turn ht hF⟩
theorem CfS.below {w x : World} {B : Nat} {l : List Ty} {v : Value} (h : CfS w B l v) (hb : Below w.heap.size w x) : CfS x B l v := h.turn (Turns.of_below (F := fun _ => False) hb) fun _ _ _ h => h
theorem CfS.mono {w : World} {B C : Nat} {l : List Ty} {v : Value} (h : CfS w B l v) (hC : C ≤ B) : CfS w C l v := by
  obtain ⟨ao, cap, e, hr⟩ := h
  exact ⟨ao, cap, e, hr.mono hC⟩
theorem CfS.nil (w : World) (B : Nat) : CfS w B [] (.agg #[.slice none 0 0]) := ⟨none, 0, rfl, RowS.nil _ _ _ _⟩
set_option maxHeartbeats 4000000 in
set_option maxRecDepth 100000 in
theorem rparse_bad {s : ByteArray} {w : World} (hs : s.size ≤ 4000000) (hbad : (Sg.ans (Gly.runes s.data.toList)).1 ≠ 0) :
    Calls Tryd.prog 14 #[.string s] w fun e y => ∃ v, e = .returned (.tuple #[v, .int .i64 ((parseA s).2.1.1 : Nat), .int .i64 ((parseA s).2.1.2 : Nat), .int .i64 (parseA s).2.2]) ∧ CfS y w.heap.size (parseA s).1 v ∧ Below w.heap.size w y := by
  have HX := Lib.hid (show parseA s = (([] : List Ty), (Sg.ans (Gly.runes s.data.toList)).2.1, (Sg.ans (Gly.runes s.data.toList)).1) from by rw [parseA, answer, if_neg hbad])
  have HL := Lib.hid (rlex_any s (w.alloc (.cells #[.slice none 0 0] tCf)) hs)
  have B0 := Lib.hid (C1.new w tCf (.slice none 0 0))
  have BL := Lib.hid (show Below w.heap.size w (w.alloc (.cells #[.slice none 0 0] tCf)) from (Below.refl _ _).alloc (Nat.le_refl _) _)
  rw [HX.out]
  generalize Sg.ans (Gly.runes s.data.toList) = a at *
  obtain ⟨code, ⟨p1, p2⟩, L⟩ := a
  simp only at hbad ⊢
  clear HX hs
  go_enter Tryd.func14, Tryd.ntmps14
  go_wp2_with fail
  generalize w.alloc (.cells #[.slice none 0 0] tCf) = w1 at *
  refine HL.out.mono ?_
  rintro e y ⟨v, rfl, -, hb⟩
  simp only
  replace B0 := Lib.hid (B0.out.on hb)
  replace BL := Lib.hid (BL.out.trans (hb.mono BL.out.size))
  have c0 := B0.out.cells
  have u0 := B0.out.free
  have t1 := st1_own y w.heap.size 0 (.slice none 0 0)
  have HB := Lib.hid (And.intro (show C1 w.heap.size tCf (.slice none 0 0) (y.setCell ⟨w.heap.size, 0, none⟩ (.slice none 0 0)) from Lib.heap_setCell_same (i := 0) B0.out _).cells (BL.out.trans (t1.below BL.out.size fun k hk => by omega)))
  have e1 : (code != 0) = true := by simpa using hbad
  clear t1 hb hbad HL B0 BL
  go_wp2_with fail
  obtain ⟨g0, hbb⟩ := HB.out
  exact bodyPost_ret (v := .tuple #[.agg #[.slice none 0 0], .int .i64 (p1 : Nat), .int .i64 (p2 : Nat), .int .i64 code]) (by simp [results, Tryd.results14, go_sem, g0]) rfl ⟨_, rfl, CfS.nil _ _, hbb⟩
set_option maxHeartbeats 8000000 in
set_option maxRecDepth 100000 in
theorem rparse_ok {s : ByteArray} {w : World} (hs : s.size ≤ 4000000) (hok : (Sg.ans (Gly.runes s.data.toList)).1 = 0) :
    Calls Tryd.prog 14 #[.string s] w fun e y => ∃ v, e = .returned (.tuple #[v, .int .i64 ((parseA s).2.1.1 : Nat), .int .i64 ((parseA s).2.1.2 : Nat), .int .i64 (parseA s).2.2]) ∧ CfS y w.heap.size (parseA s).1 v ∧ Below w.heap.size w y := by
  have HX := Lib.hid (show parseA s = answer ([] : List Ty) config (Sg.ans (Gly.runes s.data.toList)) from rfl)
  obtain ⟨q, hq, hql, hlx, ha, hlen, htk⟩ := ans_toks hok
  have HL := Lib.hid (rlex_any s (w.alloc (.cells #[.slice none 0 0] tCf)) hs)
  rw [ha] at HL HX
  rw [HX.out]
  generalize (Sg.lex (1, 1) q).2.1 = ep at *
  generalize (Sg.lex (1, 1) q).1 = L at *
  clear ha hlx hq hql hok HX hs
  have HTk := Lib.hid htk
  have B0 := Lib.hid (C1.new w tCf (.slice none 0 0))
  have BL := Lib.hid (show Below w.heap.size w (w.alloc (.cells #[.slice none 0 0] tCf)) from (Below.refl _ _).alloc (Nat.le_refl _) _)
  clear htk
  go_enter Tryd.func14, Tryd.ntmps14
  go_wp2_with fail
  generalize w.alloc (.cells #[.slice none 0 0] tCf) = w1 at *
  refine HL.out.mono ?_
  rintro e y ⟨v, rfl, hown, hb⟩
  simp only at hown ⊢
  replace B0 := Lib.hid (B0.out.on hb)
  replace BL := Lib.hid (BL.out.trans (hb.mono BL.out.size))
  obtain ⟨c, hcL, rfl, hD⟩ := denv_of hown (by omega) (fun t ht => by
    rw [kt, List.mem_map] at ht
    obtain ⟨u, hu, rfl⟩ := ht
    have := (HTk.out u hu).1
    simp only; omega) fun t ht => (HTk.out t ht).2
  subst hcL
  have hU := dconfig_any (dunion_at (c := c) 8 0 rfl) (s := ⟨kt c.L, 0⟩) hD (List.suffix_refl _)
  rw [st_zero] at hU
  have HU := Lib.hid hU
  have HD := Lib.hid hD
  clear hown hb hU HL HTk hlen hD
  go_wp2_with fail
  refine HU.out.mono ?_
  rintro e z ⟨v, rfl, hv, hb⟩
  have HF := Lib.hid (show (config ⟨kt c.L, 0⟩).2.rest <:+ kt c.L from config_fine.suf _)
  have hv' : CfS z y.heap.size (config ⟨kt c.L, 0⟩).1 v := hv
  have HR := Lib.hid (show answer ([] : List Ty) config (0, ep, c.L) = if (fin (config ⟨kt c.L, 0⟩).2).err = 0 then ((config ⟨kt c.L, 0⟩).1, (0, 0), 0) else (([] : List Ty), place c.L (fin (config ⟨kt c.L, 0⟩).2) ep, ((fin (config ⟨kt c.L, 0⟩).2).err : Int)) from by
    rw [answer, if_pos rfl]
    simp only
    rw [done]
    by_cases h : (fin (config ⟨kt c.L, 0⟩).2).err = 0
    · rw [if_pos h, if_pos h]; rfl
    · rw [if_neg h, if_neg h])
  clear hv HU
  generalize (config ⟨kt c.L, 0⟩).2 = s1 at *
  generalize (config ⟨kt c.L, 0⟩).1 = n at *
  obtain ⟨no, nc, rfl, -⟩ := id hv'
  have hwy := B0.out.lt
  replace B0 := Lib.hid (B0.out.on hb)
  have al : Below z.heap.size z ((z.alloc (.cells #[.slice c.ao c.L.length c.cap, .int .i64 (atN c s1 : Nat), .int .i64 ((0 : Nat) : Int), .int .i64 (s1.err : Nat)] tSt)).alloc (.cells #[.slice no n.length nc] tCf)) := ((Below.refl _ _).alloc (Nat.le_refl _) _).alloc (by simp) _
  have hz : (z.alloc (.cells #[.slice c.ao c.L.length c.cap, .int .i64 (atN c s1 : Nat), .int .i64 ((0 : Nat) : Int), .int .i64 (s1.err : Nat)] tSt)).heap.size = z.heap.size + 1 := by simp
  have b1 := (C4.new z tSt (.slice c.ao c.L.length c.cap) (.int .i64 (atN c s1 : Nat)) (.int .i64 ((0 : Nat) : Int)) (.int .i64 (s1.err : Nat))).on ((Below.refl _ _).alloc (Nat.le_refl _) (.cells #[.slice no n.length nc] tCf))
  have b2 := C1.new (z.alloc (.cells #[.slice c.ao c.L.length c.cap, .int .i64 (atN c s1 : Nat), .int .i64 ((0 : Nat) : Int), .int .i64 (s1.err : Nat)] tSt)) tCf (.slice no n.length nc)
  rw [hz] at b2
  have HN := Lib.hid ((CfS.below hv' al).mono (C := w.heap.size + 1) (by have := hb.size; omega))
  replace BL := Lib.hid ((BL.out.trans (hb.mono BL.out.size)).trans (al.mono (Nat.le_trans BL.out.size hb.size)))
  replace B0 := Lib.hid (B0.out.on al)
  have B1 := Lib.hid b1
  have B2 := Lib.hid b2
  replace HD := Lib.hid ((HD.out.below hb).below al)
  clear hv' hb al hz b1 b2 hwy
  have HE := Lib.hid (dend_any (o := 0) HD.out HF.out ep)
  obtain ⟨d0, d1, d2, d3⟩ := B1.out.cells
  go_wp2_with fail
  generalize (z.alloc (.cells #[.slice c.ao c.L.length c.cap, .int .i64 (atN c s1 : Nat), .int .i64 ((0 : Nat) : Int), .int .i64 (s1.err : Nat)] tSt)).alloc (.cells #[.slice no n.length nc] tCf) = w3 at *
  generalize z.heap.size = R4 at *
  clear d0 d1 d2 d3
  refine HE.out.mono ?_
  rintro e y3 ⟨rfl, hb⟩
  replace B0 := Lib.hid (B0.out.on hb)
  replace B2 := Lib.hid (B2.out.on hb)
  replace HN := Lib.hid (CfS.below HN.out hb)
  replace BL := Lib.hid (BL.out.trans (hb.mono BL.out.size))
  have HQ := Lib.hid (show ends c s1 ep = if (fin s1).err = 0 then ((0, 0), 0) else (place c.L (fin s1) ep, (fin s1).err) from rfl)
  clear HE hb HD B1
  by_cases hz : (fin s1).err = 0
  · have HR := Lib.hid (HR.out.trans (if_pos hz))
    rw [HQ.out.trans (if_pos hz)]
    have c0 := B2.out.cells
    have d0 := B0.out.cells
    have u0 := B0.out.free
    have t1 := st1_own y3 w.heap.size 0 (.slice no n.length nc)
    have HB := Lib.hid (And.intro (show C1 w.heap.size tCf (.slice no n.length nc) (y3.setCell ⟨w.heap.size, 0, none⟩ (.slice no n.length nc)) from Lib.heap_setCell_same (i := 0) B0.out _).cells (And.intro (BL.out.trans (t1.below BL.out.size fun k hk => by omega)) ((HN.out.turn t1 fun g hg _ e => by omega).mono (C := w.heap.size) (by omega))))
    clear t1 B0 B2 BL HN hz
    simp only
    go_wp2_with fail
    obtain ⟨g0, hbb, hN⟩ := HB.out
    rw [HR.out]
    exact bodyPost_ret (v := .tuple #[.agg #[.slice no n.length nc], .int .i64 0, .int .i64 0, .int .i64 0]) (by simp [results, Tryd.results14, go_sem, g0]) rfl ⟨_, rfl, hN, hbb⟩
  · have HR := Lib.hid (HR.out.trans (if_neg hz))
    rw [HQ.out.trans (if_neg hz)]
    have d0 := B0.out.cells
    have u0 := B0.out.free
    have t1 := st1_own y3 w.heap.size 0 (.slice none 0 0)
    have HB := Lib.hid (And.intro (show C1 w.heap.size tCf (.slice none 0 0) (y3.setCell ⟨w.heap.size, 0, none⟩ (.slice none 0 0)) from Lib.heap_setCell_same (i := 0) B0.out _).cells (BL.out.trans (t1.below BL.out.size fun k hk => by omega)))
    have e1 : (((fin s1).err : Int) != 0) = true := by simp; omega
    clear t1 B0 B2 BL HN hz
    generalize (fin s1).err = code at *
    generalize place c.L (fin s1) ep = pl at *
    obtain ⟨p1, p2⟩ := pl
    simp only
    go_wp2_with fail
    obtain ⟨g0, hbb⟩ := HB.out
    rw [HR.out]
    exact bodyPost_ret (v := .tuple #[.agg #[.slice none 0 0], .int .i64 (p1 : Nat), .int .i64 (p2 : Nat), .int .i64 (code : Nat)]) (by simp [results, Tryd.results14, go_sem, g0]) rfl ⟨_, rfl, CfS.nil _ _, hbb⟩
theorem rparse_any {s : ByteArray} {w : World} (hs : s.size ≤ 4000000) :
    Calls Tryd.prog 14 #[.string s] w fun e y => ∃ v, e = .returned (.tuple #[v, .int .i64 ((parseA s).2.1.1 : Nat), .int .i64 ((parseA s).2.1.2 : Nat), .int .i64 (parseA s).2.2]) ∧ CfS y w.heap.size (parseA s).1 v ∧ Below w.heap.size w y := by
  by_cases h : (Sg.ans (Gly.runes s.data.toList)).1 = 0
  · exact rparse_ok hs h
  · exact rparse_bad hs h
end Gr
end Go.Proofs.YtbphmaoomnocmaaDoor
