/-
  GrammarParses, walked.
-/
import Derived.Test.YtbphmaoomnocmaaDoorLawG7Joins
import Derived.Test.YtbphmaoomnocmaaDoorGrDp
import Derived.Test.YtbphmaoomnocmaaDoorRWord
namespace Go.Proofs.YtbphmaoomnocmaaDoor
open Go.RowKit
namespace LawG7Parses
open Gr
open Knot (Turns NewRow)
open Tr (Nd none0 node4 own_slice Box4 IsNode size good rword_any)
open Sg (Tok kt plV)

/-- Where something is wrong nothing is told beside. -/
theorem answer_bad {α : Type} {z : α} {p : St → α × St} {a : Int × (Nat × Nat) × List Tok} (h : (answer z p a).2.2 ≠ 0) : (answer z p a).1 = z := by
  unfold answer at h ⊢
  by_cases h0 : a.1 = 0
  · rw [if_pos h0] at h ⊢
    simp only at h ⊢
    unfold done at h ⊢
    by_cases h1 : (fin (p ⟨kt a.2.2, 0⟩).2).err = 0
    · rw [if_pos h1] at h
      exact absurd rfl h
    · rw [if_neg h1]
  · rw [if_neg h0]
theorem parse_fits (s : ByteArray) : (∀ t ∈ (parseA s).1, TG t) ∧ Fit (parseA s).1 := by
  by_cases h : (parseA s).2.2 = 0
  · exact ⟨(LawG7Joins.parse_size h).1, (LawG7Joins.parse_size h).2.2⟩
  · rw [show (parseA s).1 = [] from answer_bad h]
    exact ⟨by simp, by intro t ht; cases ht⟩
theorem word_size {s : ByteArray} (h : Tr.word s = true) : s.size ≤ maxLen := by
  simp [Tr.word, Gly.nameB] at h
  unfold maxLen
  omega
theorem word_some {s : ByteArray} (h : Tr.word s = true) : s.toList.isEmpty = false := by
  rw [Lib.toList_data]
  simp [Tr.word, Gly.nameB] at h
  cases hs : s.data.toList with
  | nil =>
    have h2 : s.data.toList.length = 0 := by rw [hs]; rfl
    rw [← Lib.size_eq] at h2
    omega
  | cons _ _ => rfl
theorem box3 {x : World} {R : Nat} {T : TypeId} {a b c : Value} (h : x.heap[R]? = some (.cells #[a, b, c] T (0, 0))) : x.cell? ⟨R, 0, none⟩ = some a ∧ x.cell? ⟨R, 1, none⟩ = some b ∧ x.cell? ⟨R, 2, none⟩ = some c :=
  ⟨by rw [Lib.cell_of_heap h]; rfl, by rw [Lib.cell_of_heap h]; rfl, by rw [Lib.cell_of_heap h]; rfl⟩

set_option maxHeartbeats 16000000 in
set_option maxRecDepth 100000 in
theorem main (s : ByteArray) (w : World) (g1 : s.size ≤ 4000) {a0 a1 : Addr} (hg : Glob a0 a1 w) :
    Calls Tryd.prog 4 #[.string s] w fun e y => e = .returned (.bool true) ∧ Below w.heap.size w y := by
  have HA := Lib.hid (awake_any hg)
  have HE1 := Lib.hid (fun y (hb : Below w.heap.size w y) => Parse_any (s := s) (by omega) (hg.below hb))
  have HE2 := Lib.hid (fun y => rparse_any (s := s) (w := y) (by omega))
  have HS := Lib.hid (parse_fits s)
  have e1 : decide ((4000 : Int) < (s.size : Int)) = false := by simp; omega
  clear hg g1
  go_enter Tryd.func4, Tryd.ntmps4
  go_wp2_with fail
  refine HA.out.mono ?_
  rintro e w1 ⟨rfl, b1⟩
  have HB1 := Lib.hid b1
  clear b1 HA
  go_wp2_with fail
  refine (HE1.out _ HB1.out).mono ?_
  rintro e y1 ⟨v1, rfl, hv1, by1⟩
  clear HE1 e1
  have hi1 : IsCf y1 (parseA s).1 v1 := CfS.is hv1
  generalize parseA s = r1 at *
  obtain ⟨n, ⟨l, m⟩, k⟩ := r1
  simp only [plV] at *
  obtain ⟨o1, c1, us1, rfl, -⟩ := id hi1
  obtain ⟨p1, p2, p3, p4⟩ := two_boxes y1 #[.slice o1 n.length c1] #[.int .i64 l, .int .i64 m] tCf tPl
  have H1 := Lib.hid (And.intro p2 (And.intro p3 (And.intro ((HB1.out.trans (by1.mono HB1.out.size)).trans (p1.mono (Nat.le_trans HB1.out.size by1.size))) (hi1.below p1))))
  clear hi1 hv1 by1 HB1 p1 p2 p3 p4
  go_wp2_with fail
  generalize (y1.alloc (.cells #[.slice o1 n.length c1] tCf)).alloc (.cells #[.int .i64 l, .int .i64 m] tPl) = A1 at *
  generalize y1.heap.size = R1 at *
  refine (HE2.out _).mono ?_
  rintro e y2 ⟨v2, rfl, hv2, by2⟩
  clear HE2
  have hi2 : IsCf y2 n v2 := CfS.is hv2
  obtain ⟨o2, c2, us2, rfl, -⟩ := id hi2
  have al : Below y2.heap.size y2 (y2.alloc (.cells #[.slice o2 n.length c2] tCf)) := (Below.refl _ _).alloc (Nat.le_refl _) _
  have hbx := heap_alloc_new y2 (.cells #[.slice o2 n.length c2] tCf)
  have b12 := by2.trans (al.mono by2.size)
  have hpl := (b12.block _ (Array.getElem?_eq_some_iff.1 H1.out.2.1).1).trans H1.out.2.1
  have hbo := (b12.block _ (Array.getElem?_eq_some_iff.1 H1.out.1).1).trans H1.out.1
  have HS2 := Lib.hid (samecfg_any HS.out.2 (H1.out.2.2.2.below b12) (hi2.below al))
  have H2 := Lib.hid (And.intro hbo (And.intro (H1.out.2.2.2.below b12) (H1.out.2.2.1.trans (b12.mono H1.out.2.2.1.size))))
  have i0 := box1 hbo
  have j0 := box1 hbx
  obtain ⟨p0, p1, -, -⟩ := pl_cells hpl
  clear hbx hi2 hv2 by2 al b12 hpl H1 hbo
  go_wp2_with fail
  refine HS2.out.mono ?_
  rintro e x ⟨rfl, hx⟩
  have HX := Lib.hid (H2.out.2.2.trans (hx.mono H2.out.2.2.size))
  have hbo := (hx.block _ (Array.getElem?_eq_some_iff.1 H2.out.1).1).trans H2.out.1
  obtain ⟨o3, c3, us, he3, hl⟩ := H2.out.2.1.below hx
  obtain ⟨rfl, rfl⟩ : o1 = o3 ∧ c1 = c3 := by simpa using he3
  have HL := Lib.hid hl
  clear i0 j0 p0 p1 HS2 H2 hx hl he3
  have i0 := box1 hbo
  clear hbo
  go_wp2_with fail
  clear i0
  go_loopw [56] (fun i wr => ∃ j : Nat, j ≤ n.length ∧ i = .int .i64 j ∧ Below x.heap.size x wr) (fun i _ => n.length - (intOf i).toNat)
  case atStart => exact ⟨0, by omega, rfl, Below.refl _ _⟩
  case round =>
    obtain ⟨j, hj, rfl, hb⟩ := hrel
    by_cases hlt : j < n.length
    · obtain ⟨g, q, ro, rc, rs, ix1, hgl, d0, d1, hl1⟩ := ty_at (HL.out.on hb fun _ _ h => h.below hb) c1 hlt
      have hTG := HS.out.1 n[j] (List.getElem_mem hlt)
      have hFt := HS.out.2 n[j] (List.getElem_mem hlt)
      generalize n[j] = t at *
      have al : Below wr.heap.size wr (wr.alloc (.cells #[.string t.name, .slice ro t.rels.length rc] tTy)) := (Below.refl _ _).alloc (Nat.le_refl _) _
      have hbx := heap_alloc_new wr (.cells #[.string t.name, .slice ro t.rels.length rc] tTy)
      obtain ⟨i0, i1⟩ := box2 hbx
      have HB := Lib.hid (And.intro hbx (And.intro (hb.trans (al.mono hb.size)) (hl1.on al fun _ _ h => h.below al)))
      have HW := Lib.hid (rword_any t.name (wr.alloc (.cells #[.string t.name, .slice ro t.rels.length rc] tTy)) (word_size hTG.1))
      rw [hTG.1] at HW
      have HT := Lib.hid hTG.2
      have HF := Lib.hid hFt
      clear hb al hbx hl1 hTG hFt
      go_wp2_with fail
      refine HW.out.mono ?_
      rintro e y ⟨rfl, hy⟩
      have hbx := (hy.block _ (Array.getElem?_eq_some_iff.1 HB.out.1).1).trans HB.out.1
      have HL2 := Lib.hid (HB.out.2.2.on hy fun _ _ h => h.below hy)
      have HY := Lib.hid (HB.out.2.1.trans (hy.mono HB.out.2.1.size))
      clear i0 i1 d0 d1 HB HW hy ix1 hgl
      generalize wr.heap.size = R at *
      obtain ⟨i0, i1⟩ := box2 hbx
      clear hbx
      go_wp2_with fail
      clear i0 i1
      go_loopw [67] (fun i z => ∃ k : Nat, k ≤ t.rels.length ∧ i = .int .i64 k ∧ Below y.heap.size y z) (fun i _ => t.rels.length - (intOf i).toNat)
      case atStart => exact ⟨0, by omega, rfl, Below.refl _ _⟩
      case round =>
        obtain ⟨k, hk, rfl, hb⟩ := hrel
        by_cases hkt : k < t.rels.length
        · obtain ⟨g2, q2, so, sc, no, nc, ss, jx1, hg2, d0, d1, d2, d3, d4, d5, hl1, hn1⟩ := rl_at (HL2.out.on hb fun _ _ h => h.below hb) rc hkt
          have hRG := HT.out t.rels[k] (List.getElem_mem hkt)
          have hFr := HF.out t.rels[k] (List.getElem_mem hkt)
          generalize t.rels[k] = r at *
          have al : Below wr.heap.size wr (wr.alloc (.cells #[.string r.name, .slice so r.allow.length sc, .int .i64 r.expr.kind, .string r.expr.ta, .string r.expr.tb, .slice no r.expr.kids.length nc] tRl)) := (Below.refl _ _).alloc (Nat.le_refl _) _
          have hbx := heap_alloc_new wr (.cells #[.string r.name, .slice so r.allow.length sc, .int .i64 r.expr.kind, .string r.expr.ta, .string r.expr.tb, .slice no r.expr.kids.length nc] tRl)
          obtain ⟨i0, i1, i2, i3, i4, i5⟩ := box6 hbx
          have HB := Lib.hid (And.intro hbx (And.intro (hb.trans (al.mono hb.size)) (And.intro (hl1.on al fun _ _ h => h) (hn1.below al))))
          have HW := Lib.hid (rword_any r.name (wr.alloc (.cells #[.string r.name, .slice so r.allow.length sc, .int .i64 r.expr.kind, .string r.expr.ta, .string r.expr.tb, .slice no r.expr.kids.length nc] tRl)) (word_size hRG.1))
          rw [hRG.1] at HW
          have HRg := Lib.hid hRG.2
          have HFr := Lib.hid hFr
          clear hb al hbx hl1 hn1 hRG hFr
          go_wp2_with fail
          refine HW.out.mono ?_
          rintro e z ⟨rfl, hz⟩
          have hbx := (hz.block _ (Array.getElem?_eq_some_iff.1 HB.out.1).1).trans HB.out.1
          have HB2 := Lib.hid (And.intro hbx (And.intro (HB.out.2.1.trans (hz.mono HB.out.2.1.size)) (HB.out.2.2.1.on hz fun _ _ h => h)))
          have HG := Lib.hid (rgood_any _ r.expr _ _ (Nat.le_refl _) HFr.out (HB.out.2.2.2.below hz))
          rw [HRg.out.1] at HG
          clear i0 i1 i2 i3 i4 i5 d0 d1 d2 d3 d4 d5 HB HW hz jx1 hg2
          generalize wr.heap.size = R2 at *
          obtain ⟨i0, i1, i2, i3, i4, i5⟩ := box6 hbx
          clear hbx
          go_wp2_with fail
          refine HG.out.mono ?_
          rintro e z2 ⟨rfl, hz⟩
          have hbx := (hz.block _ (Array.getElem?_eq_some_iff.1 HB2.out.1).1).trans HB2.out.1
          have HL3 := Lib.hid (HB2.out.2.2.on hz fun _ _ h => h)
          have HZ := Lib.hid (HB2.out.2.1.trans (hz.mono HB2.out.2.1.size))
          clear i0 i1 i2 i3 i4 i5 HB2 HG hz
          obtain ⟨-, i1, -, -, -, -⟩ := box6 hbx
          clear hbx
          go_wp2_with fail
          clear i1
          go_loopw [84] (fun i z => ∃ m : Nat, m ≤ r.allow.length ∧ i = .int .i64 m ∧ Below z2.heap.size z2 z) (fun i _ => r.allow.length - (intOf i).toNat)
          case atStart => exact ⟨0, by omega, rfl, Below.refl _ _⟩
          case round =>
            obtain ⟨m, hm, rfl, hb⟩ := hrel
            by_cases hmt : m < r.allow.length
            · obtain ⟨g3, q3, kx1, hg3, d0, d1, d2⟩ := al_at (HL3.out.on hb fun _ _ h => h) sc hmt
              have hAG := HRg.out.2 r.allow[m] (List.getElem_mem hmt)
              generalize r.allow[m] = al at *
              have hal : r.allow.length ≤ 9223372036854775807 := HL3.out.big
              have HAl := Lib.hid hal
              obtain ⟨aty, arl, awd⟩ := al
              obtain ⟨hw1, hw2⟩ := hAG
              simp only at hw1 hw2 d0 d1 d2
              have bl : Below wr.heap.size wr (wr.alloc (.cells #[.string aty, .string arl, .bool awd] tAl)) := (Below.refl _ _).alloc (Nat.le_refl _) _
              have hbx := heap_alloc_new wr (.cells #[.string aty, .string arl, .bool awd] tAl)
              obtain ⟨i0, i1, i2⟩ := box3 hbx
              have HB := Lib.hid (And.intro hbx (hb.trans (bl.mono hb.size)))
              have HW := Lib.hid (rword_any aty (wr.alloc (.cells #[.string aty, .string arl, .bool awd] tAl)) (word_size hw1))
              rw [hw1] at HW
              have HW2 := Lib.hid hw2
              clear hb bl hbx hw1 hw2 hal
              go_wp2_with fail
              refine HW.out.mono ?_
              rintro e z ⟨rfl, hz⟩
              have hbx := (hz.block _ (Array.getElem?_eq_some_iff.1 HB.out.1).1).trans HB.out.1
              have HZ2 := Lib.hid (HB.out.2.trans (hz.mono HB.out.2.size))
              clear i0 i1 i2 d0 d1 d2 HB HW hz kx1 hg3
              generalize wr.heap.size = R3 at *
              obtain ⟨i0, i1, i2⟩ := box3 hbx
              clear hbx
              rcases HW2.out with h0 | ⟨h1, h2⟩
              · have h0 : arl = ⟨#[]⟩ := h0
                subst h0
                have hal := HAl.out
                clear HW2
                go_wp2_with fail
                go_roundw
                case rel => exact ⟨m + 1, by omega, by go_num, HZ2.out⟩
                case measure => simp [intOf]; omega
              · subst h1
                have e5 := word_some h2
                have HW := Lib.hid (rword_any arl z (word_size h2))
                rw [h2] at HW
                clear HW2 h2
                go_wp2_with fail
                refine HW.out.mono ?_
                rintro e z3 ⟨rfl, hz⟩
                have HZ3 := Lib.hid (HZ2.out.trans (hz.mono HZ2.out.size))
                have hal := HAl.out
                clear i0 i1 i2 hz HW HZ2 e5
                go_wp2_with fail
                go_roundw
                case rel => exact ⟨m + 1, by omega, by go_num, HZ3.out⟩
                case measure => simp [intOf]; omega
            · have hRL : t.rels.length ≤ 9223372036854775807 := HL2.out.big
              go_wp2_with fail
              go_roundw
              case rel => exact ⟨k + 1, by omega, by go_num, HZ.out.trans (hb.mono HZ.out.size)⟩
              case measure => simp [intOf]; omega
        · have hLL : n.length ≤ 9223372036854775807 := HL.out.big
          go_wp2_with fail
          go_roundw
          case rel => exact ⟨j + 1, by omega, by go_num, HY.out.trans (hb.mono HY.out.size)⟩
          case measure => simp [intOf]; omega
    · go_wp2_with fail
      go_ret
      exact ⟨rfl, HX.out.trans (hb.mono HX.out.size)⟩
set_option maxHeartbeats 16000000 in
set_option maxRecDepth 100000 in
theorem early (s : ByteArray) (w : World) {a0 a1 : Addr} (hg : Glob a0 a1 w) (h : 4000 < s.size) :
    Calls Tryd.prog 4 #[.string s] w fun e y => e = .returned (.bool true) ∧ Below w.heap.size w y := by
  have HA := Lib.hid (fun y (hb : Below w.heap.size w y) => awake_any (hg.below hb))
  have e1 : decide ((4000 : Int) < (s.size : Int)) = true := by simp; omega
  clear hg h
  go_enter Tryd.func4, Tryd.ntmps4
  go_wp2_with fail
  refine (HA.out w (Below.refl _ _)).mono ?_
  rintro e w1 ⟨rfl, b1⟩
  have HB1 := Lib.hid b1
  clear b1
  go_wp2_with fail
  refine (HA.out _ HB1.out).mono ?_
  rintro e w2 ⟨rfl, b2⟩
  go_wp2_with fail
  go_ret
  exact ⟨rfl, HB1.out.trans (b2.mono HB1.out.size)⟩
theorem walk (s : ByteArray) (w : World) (_hs : s.size ≤ maxLen) {a0 a1 : Addr} (hg : Glob a0 a1 w) :
    Calls Tryd.prog 4 #[.string s] w fun e y => e = .returned (.bool true) ∧ Below w.heap.size w y := by
  by_cases g1 : 4000 < s.size
  · exact early s w hg g1
  · exact main s w (by omega) hg
end LawG7Parses
end Go.Proofs.YtbphmaoomnocmaaDoor
