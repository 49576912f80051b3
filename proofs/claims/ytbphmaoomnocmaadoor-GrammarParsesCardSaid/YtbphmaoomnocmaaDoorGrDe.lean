/-
  Layer 7's document: Expr.
-/
import Derived.Test.YtbphmaoomnocmaaDoorGrDu
import Derived.Test.YtbphmaoomnocmaaDoorSgH
namespace Go.Proofs.YtbphmaoomnocmaaDoor
open Go.RowKit
namespace Gr
open Knot (Turns NewRow)
open Tr (Nd none0 node4 own_slice Box4)
open Sg (Tok kt TokAt txt toksC toksC_at RLexOut rlex_any)

/-- The document's tokens, as its parts stand on them. -/
theorem denv_of {y : World} {B : Nat} {v : Value} {L : List Tok} (h : y.ownsRow B 107 4 v L.length (toksC L)) (hlen : L.length ≤ 10000) (hshort : Short (kt L)) (hk : ∀ t ∈ L, t.kind ≠ 0) :
    ∃ c : DCtx, c.L = L ∧ v = .slice c.ao c.L.length c.cap ∧ DEnv c y := by
  obtain ⟨ao, cap, rfl⟩ := own_slice h
  cases L with
  | nil => exact ⟨⟨ao, cap, 0, []⟩, rfl, rfl, ⟨by simp, hshort, fun j hj => absurd hj (by simp), hk⟩⟩
  | cons t r =>
    obtain ⟨g, cap', hv, hB, hg, -, hc⟩ := Tr.own_open h
    obtain ⟨rfl, rfl⟩ : ao = some ⟨g, 0, none⟩ ∧ cap = cap' := by simpa using hv
    refine ⟨⟨some ⟨g, 0, none⟩, cap, g, t :: r⟩, rfl, rfl, ⟨hlen, hshort, fun j hj => ⟨rfl, hg, ?_⟩, hk⟩⟩
    obtain ⟨h0, h1, h2, h3⟩ := toksC_at (t :: r) hj
    exact ⟨hc _ _ h0, hc _ _ h1, hc _ _ h2, hc _ _ h3⟩
/-- The state at the beginning. -/
theorem st_zero (c : DCtx) : stV c 0 ⟨kt c.L, 0⟩ = .agg #[.slice c.ao c.L.length c.cap, .int .i64 0, .int .i64 0, .int .i64 0] := by
  have h : atN c ⟨kt c.L, 0⟩ = 0 := by unfold atN; rw [Sg.kt_len]; simp
  rw [stV, h]
  rfl
set_option maxHeartbeats 4000000 in
set_option maxRecDepth 100000 in
theorem rexpr_bad {s : ByteArray} {w : World} (hs : s.size ≤ 4000000) (hbad : (Sg.ans (Gly.runes s.data.toList)).1 ≠ 0) :
    Calls Tryd.prog 10 #[.string s] w fun e y => ∃ v, e = .returned (.tuple #[v, .int .i64 ((exprA s).2.1.1 : Nat), .int .i64 ((exprA s).2.1.2 : Nat), .int .i64 (exprA s).2.2]) ∧ NodeS (fun g => w.heap.size ≤ g) y (exprA s).1 v ∧ Below w.heap.size w y := by
  have HX := Lib.hid (show exprA s = (zeroN, (Sg.ans (Gly.runes s.data.toList)).2.1, (Sg.ans (Gly.runes s.data.toList)).1) from by rw [exprA, answer, if_neg hbad])
  have HL := Lib.hid (rlex_any s (w.alloc (.cells #[.int .i64 0, .string ⟨#[]⟩, .string ⟨#[]⟩, .slice none 0 0] tNd)) hs)
  have B0 := Lib.hid (C4.new w tNd (.int .i64 0) (.string ⟨#[]⟩) (.string ⟨#[]⟩) (.slice none 0 0))
  have BL := Lib.hid (show Below w.heap.size w (w.alloc (.cells #[.int .i64 0, .string ⟨#[]⟩, .string ⟨#[]⟩, .slice none 0 0] tNd)) from (Below.refl _ _).alloc (Nat.le_refl _) _)
  rw [HX.out]
  generalize Sg.ans (Gly.runes s.data.toList) = a at *
  obtain ⟨code, ⟨p1, p2⟩, L⟩ := a
  simp only at hbad ⊢
  clear HX hs
  go_enter Tryd.func10, Tryd.ntmps10
  go_wp2_with fail
  generalize w.alloc (.cells #[.int .i64 0, .string ⟨#[]⟩, .string ⟨#[]⟩, .slice none 0 0] tNd) = w1 at *
  refine HL.out.mono ?_
  rintro e y ⟨v, rfl, -, hb⟩
  simp only
  replace B0 := Lib.hid (B0.out.on hb)
  replace BL := Lib.hid (BL.out.trans (hb.mono BL.out.size))
  obtain ⟨c0, c1, c2, c3⟩ := B0.out.cells
  obtain ⟨u0, u1, u2, u3⟩ := B0.out.free
  have t1 := st4_own y w.heap.size (.int .i64 0) (.string ⟨#[]⟩) (.string ⟨#[]⟩) (.slice none 0 0)
  have HB := Lib.hid (And.intro (B0.out.put (.int .i64 0) (.string ⟨#[]⟩) (.string ⟨#[]⟩) (.slice none 0 0)).cells (BL.out.trans (t1.below BL.out.size fun k hk => by omega)))
  unfold st4 at HB
  have e1 : (code != 0) = true := by simpa using hbad
  clear t1 hb hbad HL B0 BL
  go_wp2_with fail
  obtain ⟨⟨g0, g1, g2, g3⟩, hbb⟩ := HB.out
  exact bodyPost_ret (v := .tuple #[node4 0 ⟨#[]⟩ ⟨#[]⟩ (.slice none 0 0), .int .i64 (p1 : Nat), .int .i64 (p2 : Nat), .int .i64 code]) (by simp [results, Tryd.results10, go_sem, g0, g1, g2, g3]) rfl ⟨_, rfl, leaf (S := fun g => w.heap.size ≤ g) (by decide) (by decide), hbb⟩
set_option maxHeartbeats 8000000 in
set_option maxRecDepth 100000 in
theorem rexpr_ok {s : ByteArray} {w : World} (hs : s.size ≤ 4000000) (hok : (Sg.ans (Gly.runes s.data.toList)).1 = 0) :
    Calls Tryd.prog 10 #[.string s] w fun e y => ∃ v, e = .returned (.tuple #[v, .int .i64 ((exprA s).2.1.1 : Nat), .int .i64 ((exprA s).2.1.2 : Nat), .int .i64 (exprA s).2.2]) ∧ NodeS (fun g => w.heap.size ≤ g) y (exprA s).1 v ∧ Below w.heap.size w y := by
  have HX := Lib.hid (show exprA s = answer zeroN union (Sg.ans (Gly.runes s.data.toList)) from rfl)
  obtain ⟨q, hq, hql, hlx, ha, hlen, htk⟩ := ans_toks hok
  have HL := Lib.hid (rlex_any s (w.alloc (.cells #[.int .i64 0, .string ⟨#[]⟩, .string ⟨#[]⟩, .slice none 0 0] tNd)) hs)
  rw [ha] at HL HX
  rw [HX.out]
  generalize (Sg.lex (1, 1) q).2.1 = ep at *
  generalize (Sg.lex (1, 1) q).1 = L at *
  clear ha hlx hq hql hok HX hs
  have HTk := Lib.hid htk
  have B0 := Lib.hid (C4.new w tNd (.int .i64 0) (.string ⟨#[]⟩) (.string ⟨#[]⟩) (.slice none 0 0))
  have BL := Lib.hid (show Below w.heap.size w (w.alloc (.cells #[.int .i64 0, .string ⟨#[]⟩, .string ⟨#[]⟩, .slice none 0 0] tNd)) from (Below.refl _ _).alloc (Nat.le_refl _) _)
  clear htk
  go_enter Tryd.func10, Tryd.ntmps10
  go_wp2_with fail
  generalize w.alloc (.cells #[.int .i64 0, .string ⟨#[]⟩, .string ⟨#[]⟩, .slice none 0 0] tNd) = w1 at *
  refine HL.out.mono ?_
  rintro e y ⟨v, rfl, hown, hb⟩
  simp only at hown ⊢
  replace B0 := Lib.hid (B0.out.on hb)
  replace BL := Lib.hid (BL.out.trans (hb.mono BL.out.size))
  obtain ⟨c, hcL, rfl, hD⟩ := denv_of hown (by omega) (fun t ht => by
    rw [kt, List.mem_map] at ht
    obtain ⟨u, hu, rfl⟩ := ht
    have := (HTk.out u hu).1
    simp only; omega) fun t ht => (HTk.out t ht).2
  subst hcL
  have hU := dunion_at (c := c) 8 0 rfl ⟨kt c.L, 0⟩ y hD (List.suffix_refl _)
  rw [st_zero] at hU
  have HU := Lib.hid hU
  have HD := Lib.hid hD
  clear hown hb hU HL HTk hlen hD
  go_wp2_with fail
  refine HU.out.mono ?_
  rintro e z ⟨v, rfl, hv, hb⟩
  have HF := Lib.hid (show (union ⟨kt c.L, 0⟩).2.rest <:+ kt c.L from (union_fine (brk_fine 8)).suf _)
  have hv' : NodeS (fun g => y.heap.size ≤ g) z (union ⟨kt c.L, 0⟩).1 v := hv
  have HR := Lib.hid (show answer zeroN union (0, ep, c.L) = if (fin (union ⟨kt c.L, 0⟩).2).err = 0 then ((union ⟨kt c.L, 0⟩).1, (0, 0), 0) else (zeroN, place c.L (fin (union ⟨kt c.L, 0⟩).2) ep, ((fin (union ⟨kt c.L, 0⟩).2).err : Int)) from by
    rw [answer, if_pos rfl]
    simp only
    rw [done]
    by_cases h : (fin (union ⟨kt c.L, 0⟩).2).err = 0
    · rw [if_pos h, if_pos h]; rfl
    · rw [if_neg h, if_neg h])
  rw [show (unionOf (brk 8) ⟨kt c.L, 0⟩).2 = (union ⟨kt c.L, 0⟩).2 from rfl]
  clear hv HU
  generalize (union ⟨kt c.L, 0⟩).2 = s1 at *
  generalize (union ⟨kt c.L, 0⟩).1 = n at *
  obtain ⟨no, nc, us, rfl, -⟩ := hv'.open
  have hwy := B0.out.lt
  replace B0 := Lib.hid (B0.out.on hb)
  have al : Below z.heap.size z ((z.alloc (.cells #[.slice c.ao c.L.length c.cap, .int .i64 (atN c s1 : Nat), .int .i64 ((0 : Nat) : Int), .int .i64 (s1.err : Nat)] tSt)).alloc (.cells #[.int .i64 n.kind, .string n.ta, .string n.tb, .slice no n.kids.length nc] tNd)) := ((Below.refl _ _).alloc (Nat.le_refl _) _).alloc (by simp) _
  have hz : (z.alloc (.cells #[.slice c.ao c.L.length c.cap, .int .i64 (atN c s1 : Nat), .int .i64 ((0 : Nat) : Int), .int .i64 (s1.err : Nat)] tSt)).heap.size = z.heap.size + 1 := by simp
  have b1 := (C4.new z tSt (.slice c.ao c.L.length c.cap) (.int .i64 (atN c s1 : Nat)) (.int .i64 ((0 : Nat) : Int)) (.int .i64 (s1.err : Nat))).on ((Below.refl _ _).alloc (Nat.le_refl _) (.cells #[.int .i64 n.kind, .string n.ta, .string n.tb, .slice no n.kids.length nc] tNd))
  have b2 := C4.new (z.alloc (.cells #[.slice c.ao c.L.length c.cap, .int .i64 (atN c s1 : Nat), .int .i64 ((0 : Nat) : Int), .int .i64 (s1.err : Nat)] tSt)) tNd (.int .i64 n.kind) (.string n.ta) (.string n.tb) (.slice no n.kids.length nc)
  rw [hz] at b2
  have HN := Lib.hid ((NodeS.below hv' al).sub (S' := fun g => w.heap.size < g) fun g hg _ => by omega)
  replace BL := Lib.hid ((BL.out.trans (hb.mono BL.out.size)).trans (al.mono (Nat.le_trans BL.out.size hb.size)))
  replace B0 := Lib.hid (B0.out.on al)
  have B1 := Lib.hid b1
  have B2 := Lib.hid b2
  replace HD := Lib.hid ((HD.out.below hb).below al)
  clear hv' hb al hz b1 b2 hwy
  have HE := Lib.hid (dend_any (o := 0) HD.out HF.out ep)
  obtain ⟨d0, d1, d2, d3⟩ := B1.out.cells
  go_wp2_with fail
  generalize (z.alloc (.cells #[.slice c.ao c.L.length c.cap, .int .i64 (atN c s1 : Nat), .int .i64 ((0 : Nat) : Int), .int .i64 (s1.err : Nat)] tSt)).alloc (.cells #[.int .i64 n.kind, .string n.ta, .string n.tb, .slice no n.kids.length nc] tNd) = w3 at *
  generalize z.heap.size = R4 at *
  clear d0 d1 d2 d3
  refine HE.out.mono ?_
  rintro e y3 ⟨rfl, hb⟩
  replace B0 := Lib.hid (B0.out.on hb)
  replace B2 := Lib.hid (B2.out.on hb)
  replace HN := Lib.hid (NodeS.below HN.out hb)
  replace BL := Lib.hid (BL.out.trans (hb.mono BL.out.size))
  have HQ := Lib.hid (show ends c s1 ep = if (fin s1).err = 0 then ((0, 0), 0) else (place c.L (fin s1) ep, (fin s1).err) from rfl)
  clear HE hb HD B1
  by_cases hz : (fin s1).err = 0
  · have HR := Lib.hid (HR.out.trans (if_pos hz))
    rw [HQ.out.trans (if_pos hz)]
    obtain ⟨c0, c1, c2, c3⟩ := B2.out.cells
    obtain ⟨d0, d1, d2, d3⟩ := B0.out.cells
    obtain ⟨u0, u1, u2, u3⟩ := B0.out.free
    have t1 := st4_own y3 w.heap.size (.int .i64 n.kind) (.string n.ta) (.string n.tb) (.slice no n.kids.length nc)
    have HB := Lib.hid (And.intro (B0.out.put (.int .i64 n.kind) (.string n.ta) (.string n.tb) (.slice no n.kids.length nc)).cells (And.intro (BL.out.trans (t1.below BL.out.size fun k hk => by omega)) (HN.out.turn t1 (S' := fun g => w.heap.size ≤ g) (fun g hg _ e => by omega) fun g hg _ => by omega)))
    unfold st4 at HB
    clear t1 B0 B2 BL HN hz
    simp only
    go_wp2_with fail
    obtain ⟨⟨g0, g1, g2, g3⟩, hbb, hN⟩ := HB.out
    rw [HR.out]
    exact bodyPost_ret (v := .tuple #[node4 n.kind n.ta n.tb (.slice no n.kids.length nc), .int .i64 0, .int .i64 0, .int .i64 0]) (by simp [results, Tryd.results10, go_sem, g0, g1, g2, g3]) rfl ⟨_, rfl, hN, hbb⟩
  · have HR := Lib.hid (HR.out.trans (if_neg hz))
    rw [HQ.out.trans (if_neg hz)]
    obtain ⟨d0, d1, d2, d3⟩ := B0.out.cells
    obtain ⟨u0, u1, u2, u3⟩ := B0.out.free
    have t1 := st4_own y3 w.heap.size (.int .i64 0) (.string ⟨#[]⟩) (.string ⟨#[]⟩) (.slice none 0 0)
    have HB := Lib.hid (And.intro (B0.out.put (.int .i64 0) (.string ⟨#[]⟩) (.string ⟨#[]⟩) (.slice none 0 0)).cells (BL.out.trans (t1.below BL.out.size fun k hk => by omega)))
    unfold st4 at HB
    have e1 : (((fin s1).err : Int) != 0) = true := by simp; omega
    clear t1 B0 B2 BL HN hz
    generalize (fin s1).err = code at *
    generalize place c.L (fin s1) ep = pl at *
    obtain ⟨p1, p2⟩ := pl
    simp only
    go_wp2_with fail
    obtain ⟨⟨g0, g1, g2, g3⟩, hbb⟩ := HB.out
    rw [HR.out]
    exact bodyPost_ret (v := .tuple #[node4 0 ⟨#[]⟩ ⟨#[]⟩ (.slice none 0 0), .int .i64 (p1 : Nat), .int .i64 (p2 : Nat), .int .i64 (code : Nat)]) (by simp [results, Tryd.results10, go_sem, g0, g1, g2, g3]) rfl ⟨_, rfl, leaf (S := fun g => w.heap.size ≤ g) (by decide) (by decide), hbb⟩
theorem rexpr_any {s : ByteArray} {w : World} (hs : s.size ≤ 4000000) :
    Calls Tryd.prog 10 #[.string s] w fun e y => ∃ v, e = .returned (.tuple #[v, .int .i64 ((exprA s).2.1.1 : Nat), .int .i64 ((exprA s).2.1.2 : Nat), .int .i64 (exprA s).2.2]) ∧ NodeS (fun g => w.heap.size ≤ g) y (exprA s).1 v ∧ Below w.heap.size w y := by
  by_cases h : (Sg.ans (Gly.runes s.data.toList)).1 = 0
  · exact rexpr_ok hs h
  · exact rexpr_bad hs h
end Gr
end Go.Proofs.YtbphmaoomnocmaaDoor
