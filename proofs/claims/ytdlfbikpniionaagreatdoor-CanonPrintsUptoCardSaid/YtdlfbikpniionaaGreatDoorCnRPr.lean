/-
  Layer 8: the document's Print, at a configuration that is well made.
-/
import Derived.Test.YtdlfbikpniionaaGreatDoorCnPr
import Derived.Test.YtdlfbikpniionaaGreatDoorCnRef
namespace Go.Proofs.YtdlfbikpniionaaGreatDoor
open Go.RowKit
namespace Cn
open Tr (Nd IsNode node4 good size errOf fresh_one two)
open Gr (Al Rl Ty IsAl IsRl IsTy IsCf Lies ty_at rl_at al_at alV relV tyV tAl tRl tTy tCf box1 box2 box6 empty_iff bs bs_list bs_size bs_of prA prAs prAl prN prR prT prC WA flat_take prAs_take)

theorem lit_size (l : List UInt8) : (bs l).size = l.length := bs_size l
/-- A sum of a text of which the bytes are known. -/
theorem cat2 {a b : ByteArray} {x y : List UInt8} (ha : a.data.toList = x) (hb : b.data.toList = y) (h : x.length + y.length ≤ 100000000) : ∃ p : ByteArray, (∀ W, (Op.stringOp .add a b).run Tryz.prog W = .ok (.string p) W) ∧ p.data.toList = x ++ y := by
  obtain ⟨p, h1, -, h3⟩ := cat a b (by rw [Lib.size_eq, Lib.size_eq, ha, hb]; exact h)
  exact ⟨p, h1, by rw [h3, ha, hb]⟩
/-- What is written of a relation ahead of what it allows. -/
def ahead (r : Rl) : List UInt8 := [32, 32, 114, 101, 108, 32] ++ r.name.data.toList ++ [32]
theorem prR_ahead (r : Rl) : prR r = ahead r ++ (prAl r.allow ++ ([61, 32] ++ prN r.expr ++ [59, 10])) := by simp [prR, ahead]

set_option maxHeartbeats 16000000 in
set_option maxRecDepth 100000 in
theorem rPrint_any (l : List Ty) (v : Value) (w : World) (h : IsCf w l v) (hg : gC l = true) (hn : ∀ t ∈ l, ∀ r ∈ t.rels, r.allow.length ≤ 100000) (hlen : (prC l).length ≤ 4000000) :
    Calls Tryz.prog 10 #[v] w fun e x => e = .returned (.string (bs (prC l))) ∧ Below w.heap.size w x := by
  obtain ⟨ao, cap, us, rfl, hl⟩ := h
  have h0 := heap_alloc_new w (.cells #[.slice ao l.length cap] tCf)
  have al := fresh_one w (.cells #[.slice ao l.length cap] tCf)
  have HL := Lib.hid (hl.on al fun _ _ h => h.below al)
  have HS := Lib.hid (And.intro hn hlen)
  have HGT := Lib.hid (show ∀ t ∈ l, Tr.word t.name = true ∧ ∀ r ∈ t.rels, gR r = true from fun t ht => by
    have h1 := List.all_eq_true.1 hg t ht
    rw [gT, Bool.and_eq_true] at h1
    exact ⟨h1.1, List.all_eq_true.1 h1.2⟩)
  have hbig : l.length ≤ 9223372036854775807 := hl.big
  have H0 := Lib.hid (And.intro al h0)
  have hR0 : w.heap.size < (w.alloc (.cells #[.slice ao l.length cap] tCf)).heap.size := by simp
  clear hl hn hlen hg h0 al
  go_enter Tryz.func10, Tryz.ntmps10
  go_upto_region 2 with fail
  generalize w.alloc (.cells #[.slice ao l.length cap] tCf) = X at *
  have b0 := box1 H0.out.2
  go_wp2_with fail
  clear b0
  go_loopw [3, 12] (fun s i wr => ∃ (j : Nat) (S : ByteArray), j ≤ l.length ∧ i = .int .i64 j ∧ s = .string S ∧ Hid (S.data.toList = prC (l.take j)) ∧ Below X.heap.size X wr) (fun _ i _ => l.length - (intOf i).toNat)
  case atStart => exact ⟨0, ⟨#[]⟩, by omega, rfl, rfl, Lib.hid rfl, Below.refl _ _⟩
  case round =>
    obtain ⟨j, S, hj, rfl, rfl, hS, hb⟩ := hrel
    by_cases hlt : j < l.length
    · obtain ⟨g, q, ro, rc, vs, hix, hg, c0, c1, hla⟩ := ty_at (HL.out.on hb fun _ _ h => h.below hb) cap hlt
      have b0 := box1 ((hb.block _ hR0).trans H0.out.2)
      have hgt := HGT.out l[j] (List.getElem_mem hlt)
      have hnn := HS.out.1 l[j] (List.getElem_mem hlt)
      have hz := sofar_zero l j l[j]
      have hst := fun k (hk : k < l[j].rels.length) => sofar_step l j l[j] hk
      have hlast := sofar_last l hlt
      have hle := fun k => Nat.le_trans (sofar_le l hlt k) HS.out.2
      generalize l[j] = t at *
      have hnl := Tr.word_len hgt.1
      rw [Lib.size_eq] at hnl
      have hl0 := hle 0
      rw [hz, List.length_append] at hl0
      obtain ⟨p1, u1, e1⟩ := cat2 (b := ⟨#[116, 121, 112, 101, 32]⟩) (y := [116, 121, 112, 101, 32]) hS.out rfl (by simp only [List.length_cons, List.length_nil]; omega)
      obtain ⟨p2, u2, e2⟩ := cat2 (b := t.name) e1 rfl (by simp only [List.length_append, List.length_cons, List.length_nil]; omega)
      obtain ⟨p3, u3, e3⟩ := cat2 (b := ⟨#[32, 123, 10]⟩) (y := [32, 123, 10]) e2 rfl (by simp only [List.length_append, List.length_cons, List.length_nil]; omega)
      have HP := Lib.hid (show p3.data.toList = sofar l j t 0 by rw [e3, hz, hd]; simp)
      have al1 := fresh_one wr (.cells #[.string t.name, .slice ro t.rels.length rc] tTy)
      have hk1 := heap_alloc_new wr (.cells #[.string t.name, .slice ro t.rels.length rc] tTy)
      have hR1 : wr.heap.size < (wr.alloc (.cells #[.string t.name, .slice ro t.rels.length rc] tTy)).heap.size := by simp
      have HLT := Lib.hid (hla.on al1 fun _ _ h => h.below al1)
      have hbig2 : t.rels.length ≤ 9223372036854775807 := hla.big
      have H1 := Lib.hid (And.intro (hb.trans (al1.mono hb.size)) hk1)
      have HT := Lib.hid (And.intro hgt.2 (And.intro hnn (And.intro hst (And.intro hlast hle))))
      clear hla al1 hk1 hb hS hg hgt hnn hz hst hlast hle hnl hl0 e1 e2 e3
      go_upto_region 6 with fail
      generalize wr.alloc (.cells #[.string t.name, .slice ro t.rels.length rc] tTy) = Y at *
      generalize wr.heap.size = R1 at *
      clear b0 c0 c1 hix
      obtain ⟨b0, b1⟩ := box2 H1.out.2
      go_wp2_with fail
      clear b0 b1 u1 u2 u3
      go_loopw [3, 29] (fun s i wr => ∃ (k : Nat) (S : ByteArray), k ≤ t.rels.length ∧ i = .int .i64 k ∧ s = .string S ∧ Hid (S.data.toList = sofar l j t k) ∧ Below Y.heap.size Y wr) (fun _ i _ => t.rels.length - (intOf i).toNat)
      case atStart => exact ⟨0, p3, by omega, rfl, rfl, HP, Below.refl _ _⟩
      case round =>
        obtain ⟨k, S2, hk, rfl, rfl, hS, hb⟩ := hrel
        clear HP
        by_cases hkt : k < t.rels.length
        · obtain ⟨g2, q2, so, sc, no, nc, ss, hix, hg, c0, c1, c2, c3, c4, c5, hla, hnd⟩ := rl_at (HLT.out.on hb fun _ _ h => h.below hb) rc hkt
          have b1 := (box2 ((hb.block _ hR1).trans H1.out.2)).2
          have hgr := HT.out.1 t.rels[k] (List.getElem_mem hkt)
          have hnr := HT.out.2.1 t.rels[k] (List.getElem_mem hkt)
          have hst := HT.out.2.2.1 k hkt
          have hle := HT.out.2.2.2.2 k
          generalize t.rels[k] = r at *
          have hgp := gR_parts hgr
          have hnl := Tr.word_len hgp.1
          rw [Lib.size_eq] at hnl
          obtain ⟨p1, u1, e1⟩ := cat2 (b := ⟨#[32, 32, 114, 101, 108, 32]⟩) (y := [32, 32, 114, 101, 108, 32]) hS.out rfl (by simp only [List.length_cons, List.length_nil]; omega)
          obtain ⟨p2, u2, e2⟩ := cat2 (b := r.name) e1 rfl (by simp only [List.length_append, List.length_cons, List.length_nil]; omega)
          obtain ⟨p3, u3, e3⟩ := cat2 (b := ⟨#[32]⟩) (y := [32]) e2 rfl (by simp only [List.length_append, List.length_cons, List.length_nil]; omega)
          have HP := Lib.hid (show p3.data.toList = sofar l j t k ++ ahead r ++ prAs true (r.allow.take 0) by rw [e3, ahead, List.take_zero, prAs]; simp)
          have hah : (sofar l j t k ++ ahead r).length ≤ 4100000 := by simp only [ahead, List.length_append, List.length_cons, List.length_nil]; omega
          have al1 := fresh_one wr (.cells #[.string r.name, .slice so r.allow.length sc, .int .i64 r.expr.kind, .string r.expr.ta, .string r.expr.tb, .slice no r.expr.kids.length nc] tRl)
          have hk1 := heap_alloc_new wr (.cells #[.string r.name, .slice so r.allow.length sc, .int .i64 r.expr.kind, .string r.expr.ta, .string r.expr.tb, .slice no r.expr.kids.length nc] tRl)
          have hR2 : wr.heap.size < (wr.alloc (.cells #[.string r.name, .slice so r.allow.length sc, .int .i64 r.expr.kind, .string r.expr.ta, .string r.expr.tb, .slice no r.expr.kids.length nc] tRl)).heap.size := by simp
          have HLA := Lib.hid (hla.on al1 fun _ _ h => h)
          have hbig3 : r.allow.length ≤ 9223372036854775807 := hla.big
          have H3 := Lib.hid (And.intro (hb.trans (al1.mono hb.size)) (And.intro hk1 (hnd.below al1)))
          have HR := Lib.hid (And.intro hgp (And.intro hnr (And.intro (show sofar l j t (k + 1) = sofar l j t k ++ ahead r ++ (prAl r.allow ++ ([61, 32] ++ prN r.expr ++ [59, 10])) by rw [hst, prR_ahead]; simp) hah)))
          clear hla hnd al1 hk1 hb hS hg hgr hnr hst hle hgp hnl hah e1 e2 e3
          generalize sofar l j t k ++ ahead r = base at *
          go_upto_region 11 with fail
          generalize wr.alloc (.cells #[.string r.name, .slice so r.allow.length sc, .int .i64 r.expr.kind, .string r.expr.ta, .string r.expr.tb, .slice no r.expr.kids.length nc] tRl) = Z at *
          generalize wr.heap.size = R2 at *
          clear b1 c0 c1 c2 c3 c4 c5 hix
          obtain ⟨d0, d1, -, -, -, -⟩ := box6 H3.out.2.1
          go_wp2_with fail
          clear d0 d1 u1 u2 u3
          go_loopw [3, 46] (fun s i wr => ∃ (m : Nat) (S : ByteArray), m ≤ r.allow.length ∧ i = .int .i64 m ∧ s = .string S ∧ Hid (S.data.toList = base ++ prAs true (r.allow.take m)) ∧ Below Z.heap.size Z wr) (fun _ i _ => r.allow.length - (intOf i).toNat)
          case atStart => exact ⟨0, p3, by omega, rfl, rfl, HP, Below.refl _ _⟩
          case round =>
            obtain ⟨m, S3, hm, rfl, rfl, hS, hb⟩ := hrel
            clear HP
            have hpl : (base ++ prAs true (r.allow.take m)).length ≤ 8000000 := by
              have h1 := Gr.prAs_len (r.allow.take m) true fun a ha => HR.out.1.2.2 a (List.mem_of_mem_take ha)
              have h2 : (r.allow.take m).length ≤ r.allow.length := by rw [List.length_take]; omega
              have h3 := HR.out.2.1
              have h4 := HR.out.2.2.2
              rw [List.length_append]
              omega
            by_cases hmt : m < r.allow.length
            · obtain ⟨g3, q3, hix, hg, c0, c1, c2⟩ := al_at (HLA.out.on hb fun _ _ h => h) sc hmt
              have d1 := (box6 ((hb.block _ hR2).trans H3.out.2.1)).2.1
              have hwa := HR.out.1.2.2 r.allow[m] (List.getElem_mem hmt)
              have hstep := prAs_take hmt
              have hpp := pa_parts r.allow[m] hwa
              have hty := Tr.word_len hwa.1
              have hpa : (prA r.allow[m]) = (pa r.allow[m]).data.toList := rfl
              generalize r.allow[m] = a at *
              obtain ⟨ty, rl, wd⟩ := a
              rw [empty_iff] at hpp
              simp only at c0 c1 c2 hty hpp
              rw [Lib.size_eq] at hty
              have HB := Lib.hid hb
              clear hb hg hwa
              by_cases hm0 : m = 0
              · have hm1 : ((m : Int) == 0) = true := by rw [hm0]; rfl
                rw [if_pos hm0] at hstep
                obtain ⟨p1, u1, e1⟩ := cat2 (b := ⟨#[91]⟩) (y := [91]) hS.out rfl (by simp only [List.length_append, List.length_cons, List.length_nil] at hpl ⊢; omega)
                obtain ⟨p2, u2, e2⟩ := cat2 (b := ty) e1 rfl (by simp only [List.length_append, List.length_cons, List.length_nil] at hpl ⊢; omega)
                clear hm0
                rcases hpp with ⟨hn, rfl, hfin⟩ | ⟨hn, rfl, hfin⟩ | ⟨hn, rfl, hz, hfin⟩
                · have HP := Lib.hid (show p2.data.toList = base ++ prAs true (r.allow.take (m + 1)) by rw [hstep, hpa, hfin, e2]; simp)
                  clear hS hpl hstep hpa hfin e2 e1
                  go_wp2_with fail
                  go_roundw
                  case rel => exact ⟨m + 1, p2, by omega, by go_num, rfl, HP, HB.out⟩
                  case measure => simp [intOf]; omega
                · obtain ⟨p3, u3, e3⟩ := cat2 (b := ⟨#[58, 42]⟩) (y := [58, 42]) e2 rfl (by simp only [List.length_append, List.length_cons, List.length_nil] at hpl ⊢; omega)
                  have HP := Lib.hid (show p3.data.toList = base ++ prAs true (r.allow.take (m + 1)) by rw [hstep, hpa, hfin, e3]; simp)
                  clear hS hpl hstep hpa hfin e3 e2 e1
                  go_wp2_with fail
                  go_roundw
                  case rel => exact ⟨m + 1, p3, by omega, by go_num, rfl, HP, HB.out⟩
                  case measure => simp [intOf]; omega
                · rw [Lib.size_eq] at hz
                  obtain ⟨p3, u3, e3⟩ := cat2 (b := ⟨#[35]⟩) (y := [35]) e2 rfl (by simp only [List.length_append, List.length_cons, List.length_nil] at hpl ⊢; omega)
                  obtain ⟨p4, u4, e4⟩ := cat2 (b := rl) e3 rfl (by simp only [List.length_append, List.length_cons, List.length_nil] at hpl ⊢; omega)
                  have HP := Lib.hid (show p4.data.toList = base ++ prAs true (r.allow.take (m + 1)) by rw [hstep, hpa, hfin, e4]; simp)
                  clear hS hpl hstep hpa hfin e4 e3 e2 e1
                  go_wp2_with fail
                  go_roundw
                  case rel => exact ⟨m + 1, p4, by omega, by go_num, rfl, HP, HB.out⟩
                  case measure => simp [intOf]; omega
              · have hm1 : ((m : Int) == 0) = false := beq_eq_false_iff_ne.2 (by omega)
                rw [if_neg hm0] at hstep
                obtain ⟨p1, u1, e1⟩ := cat2 (b := ⟨#[44, 32]⟩) (y := [44, 32]) hS.out rfl (by simp only [List.length_append, List.length_cons, List.length_nil] at hpl ⊢; omega)
                obtain ⟨p2, u2, e2⟩ := cat2 (b := ty) e1 rfl (by simp only [List.length_append, List.length_cons, List.length_nil] at hpl ⊢; omega)
                clear hm0
                rcases hpp with ⟨hn, rfl, hfin⟩ | ⟨hn, rfl, hfin⟩ | ⟨hn, rfl, hz, hfin⟩
                · have HP := Lib.hid (show p2.data.toList = base ++ prAs true (r.allow.take (m + 1)) by rw [hstep, hpa, hfin, e2]; simp)
                  clear hS hpl hstep hpa hfin e2 e1
                  go_wp2_with fail
                  go_roundw
                  case rel => exact ⟨m + 1, p2, by omega, by go_num, rfl, HP, HB.out⟩
                  case measure => simp [intOf]; omega
                · obtain ⟨p3, u3, e3⟩ := cat2 (b := ⟨#[58, 42]⟩) (y := [58, 42]) e2 rfl (by simp only [List.length_append, List.length_cons, List.length_nil] at hpl ⊢; omega)
                  have HP := Lib.hid (show p3.data.toList = base ++ prAs true (r.allow.take (m + 1)) by rw [hstep, hpa, hfin, e3]; simp)
                  clear hS hpl hstep hpa hfin e3 e2 e1
                  go_wp2_with fail
                  go_roundw
                  case rel => exact ⟨m + 1, p3, by omega, by go_num, rfl, HP, HB.out⟩
                  case measure => simp [intOf]; omega
                · rw [Lib.size_eq] at hz
                  obtain ⟨p3, u3, e3⟩ := cat2 (b := ⟨#[35]⟩) (y := [35]) e2 rfl (by simp only [List.length_append, List.length_cons, List.length_nil] at hpl ⊢; omega)
                  obtain ⟨p4, u4, e4⟩ := cat2 (b := rl) e3 rfl (by simp only [List.length_append, List.length_cons, List.length_nil] at hpl ⊢; omega)
                  have HP := Lib.hid (show p4.data.toList = base ++ prAs true (r.allow.take (m + 1)) by rw [hstep, hpa, hfin, e4]; simp)
                  clear hS hpl hstep hpa hfin e4 e3 e2 e1
                  go_wp2_with fail
                  go_roundw
                  case rel => exact ⟨m + 1, p4, by omega, by go_num, rfl, HP, HB.out⟩
                  case measure => simp [intOf]; omega
            · have hm' : m = r.allow.length := by omega
              subst hm'
              rw [List.take_length] at hS hpl
              have HX := Lib.hid (fun x (hx : Below Z.heap.size Z x) => rexpr_any (size r.expr) r.expr _ x (Nat.le_refl _) (err_zero HR.out.1.2.1).2.1 (err_zero HR.out.1.2.1).1 (H3.out.2.2.below hx))
              obtain ⟨d0, d1, d2, d3, d4, d5⟩ := box6 ((hb.block _ hR2).trans H3.out.2.1)
              have hnode := node_len HR.out.1.2.1
              have HB := Lib.hid hb
              clear hb
              by_cases hpos : 0 < r.allow.length
              · obtain ⟨p1, u1, e1⟩ := cat2 (b := ⟨#[93, 32]⟩) (y := [93, 32]) hS.out rfl (by simp only [List.length_append, List.length_cons, List.length_nil] at hpl ⊢; omega)
                obtain ⟨p2, u2, e2⟩ := cat2 (b := ⟨#[61, 32]⟩) (y := [61, 32]) e1 rfl (by simp only [List.length_append, List.length_cons, List.length_nil] at hpl ⊢; omega)
                obtain ⟨p3, u3, e3⟩ := cat2 (b := bs (prN r.expr)) e2 rfl (by simp only [List.length_append, List.length_cons, List.length_nil, bs_list] at hpl ⊢; omega)
                obtain ⟨p4, u4, e4⟩ := cat2 (b := ⟨#[59, 10]⟩) (y := [59, 10]) e3 rfl (by simp only [List.length_append, List.length_cons, List.length_nil, bs_list] at hpl ⊢; omega)
                have HP := Lib.hid (show p4.data.toList = sofar l j t (k + 1) by
                  have hne : r.allow.isEmpty = false := by cases h : r.allow with
                    | nil => rw [h] at hpos; simp at hpos
                    | cons _ _ => rfl
                  rw [e4, HR.out.2.2.1, prAl, hne, bs_list]
                  simp)
                clear hS hpl e1 e2 e3 e4 hnode
                go_wp2_with fail
                refine (HX.out _ HB.out).mono ?_
                rintro e x ⟨rfl, hx⟩
                have H5 := Lib.hid (H3.out.1.trans ((HB.out.trans (hx.mono HB.out.size)).mono H3.out.1.size))
                clear hx d0 d1 d2 d3 d4 d5
                go_wp2_with fail
                go_roundw
                case rel => exact ⟨k + 1, p4, by omega, by go_num, rfl, HP, H5.out⟩
                case measure => simp [intOf]; omega
              · have hz0 : r.allow = [] := List.eq_nil_of_length_eq_zero (by omega)
                obtain ⟨p2, u2, e2⟩ := cat2 (b := ⟨#[61, 32]⟩) (y := [61, 32]) hS.out rfl (by simp only [List.length_append, List.length_cons, List.length_nil] at hpl ⊢; omega)
                obtain ⟨p3, u3, e3⟩ := cat2 (b := bs (prN r.expr)) e2 rfl (by simp only [List.length_append, List.length_cons, List.length_nil, bs_list] at hpl ⊢; omega)
                obtain ⟨p4, u4, e4⟩ := cat2 (b := ⟨#[59, 10]⟩) (y := [59, 10]) e3 rfl (by simp only [List.length_append, List.length_cons, List.length_nil, bs_list] at hpl ⊢; omega)
                have HP := Lib.hid (show p4.data.toList = sofar l j t (k + 1) by
                  rw [e4, HR.out.2.2.1, prAl, hz0, bs_list]
                  simp [prAs])
                clear hS hpl e2 e3 e4 hnode hz0
                go_wp2_with fail
                refine (HX.out _ HB.out).mono ?_
                rintro e x ⟨rfl, hx⟩
                have H5 := Lib.hid (H3.out.1.trans ((HB.out.trans (hx.mono HB.out.size)).mono H3.out.1.size))
                clear hx d0 d1 d2 d3 d4 d5
                go_wp2_with fail
                go_roundw
                case rel => exact ⟨k + 1, p4, by omega, by go_num, rfl, HP, H5.out⟩
                case measure => simp [intOf]; omega
        · have hk' : k = t.rels.length := by omega
          subst hk'
          have hle := HT.out.2.2.2.2 t.rels.length
          obtain ⟨p1, u1, e1⟩ := cat2 (b := ⟨#[125, 10]⟩) (y := [125, 10]) hS.out rfl (by simp only [List.length_cons, List.length_nil]; omega)
          have HP := Lib.hid (show p1.data.toList = prC (l.take (j + 1)) by rw [e1, HT.out.2.2.2.1])
          have HB := Lib.hid (H1.out.1.trans (hb.mono H1.out.1.size))
          clear hS hb hle e1
          go_wp2_with fail
          go_roundw
          case rel => exact ⟨j + 1, p1, by omega, by go_num, rfl, HP, HB.out⟩
          case measure => simp [intOf]; omega
    · have hj' : j = l.length := by omega
      subst hj'
      have ha := hS.out
      rw [List.take_length] at ha
      have HE := Lib.hid (eq_bs ha)
      have HB := Lib.hid (H0.out.1.trans (hb.mono H0.out.1.size))
      clear ha hS hb
      go_wp2_with fail
      go_ret
      exact ⟨by rw [← HE.out]; rfl, HB.out⟩
end Cn
end Go.Proofs.YtdlfbikpniionaaGreatDoor
