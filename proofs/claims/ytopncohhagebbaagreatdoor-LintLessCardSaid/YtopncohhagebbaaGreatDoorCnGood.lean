/-
  Layer 8 (canon): Good: whether a configuration is well made, at any configuration.
-/
import Derived.Test.YtopncohhagebbaaGreatDoorCnA
import Derived.Test.YtopncohhagebbaaGreatDoorCnDef
namespace Go.Proofs.YtopncohhagebbaaGreatDoor
open Go.RowKit
namespace Cn
open Tr (Nd IsNode node4 good size errOf fresh_one two)
open Gr (Al Rl Ty IsAl IsRl IsTy IsCf Lies ty_at rl_at al_at alV relV tyV tAl tRl tTy tCf box1 box2 box6 empty_iff)

set_option maxHeartbeats 2000000 in
set_option maxRecDepth 100000 in
theorem goodAllow_any (a : Al) (w : World) :
    Calls Tryz.prog 130 #[alV a] w fun e x => e = .returned (.bool (gA a)) ∧ Below w.heap.size w x := by
  obtain ⟨ty, rl, wd⟩ := a
  have h0 := heap_alloc_new w (.cells #[.string ty, .string rl, .bool wd] tAl)
  have al := fresh_one w (.cells #[.string ty, .string rl, .bool wd] tAl)
  have H0 := Lib.hid (And.intro h0 al)
  obtain ⟨b0, b1, b2⟩ := box3 h0
  have HW := Lib.hid (fun s x => Tr.word_any s x)
  have hg : gA ⟨ty, rl, wd⟩ = (Tr.word ty && (rl.toList.isEmpty || (Tr.word rl && !wd))) := by rw [gA, empty_iff]
  have HG := Lib.hid hg
  clear h0 al hg
  cases hn : rl.toList.isEmpty with
  | true =>
    rw [hn] at HG
    go_enter Tryz.func130, Tryz.ntmps130
    go_wp2_with fail
    refine (HW.out _ _).mono ?_
    rintro e x ⟨rfl, hx⟩
    have H1 := Lib.hid (H0.out.2.trans (hx.mono H0.out.2.size))
    clear hx
    go_wp2_with fail
    go_ret
    exact ⟨by rw [HG.out, Bool.true_or, Bool.and_true]; rfl, H1.out⟩
  | false =>
    rw [hn] at HG
    go_enter Tryz.func130, Tryz.ntmps130
    go_wp2_with fail
    refine (HW.out _ _).mono ?_
    rintro e x ⟨rfl, hx⟩
    have H1 := Lib.hid (And.intro (H0.out.2.trans (hx.mono H0.out.2.size)) ((hx.block _ (by simp)).trans H0.out.1))
    clear hx b0 b1 b2
    obtain ⟨b0, b1, b2⟩ := box3 H1.out.2
    cases hw1 : Tr.word ty with
    | false =>
      rw [hw1] at HG
      go_wp2_with fail
      go_ret
      exact ⟨by rw [HG.out, Bool.false_and]; rfl, H1.out.1⟩
    | true =>
      rw [hw1] at HG
      go_wp2_with fail
      refine (HW.out _ _).mono ?_
      rintro e y ⟨rfl, hy⟩
      have H2 := Lib.hid (And.intro (H1.out.1.trans (hy.mono H1.out.1.size)) ((hy.block _ (Array.getElem?_eq_some_iff.1 H1.out.2).1).trans H1.out.2))
      clear hy b0 b1 b2
      obtain ⟨b0, b1, b2⟩ := box3 H2.out.2
      cases hw2 : Tr.word rl with
      | false =>
        rw [hw2] at HG
        go_wp2_with fail
        go_ret
        exact ⟨by rw [HG.out]; rfl, H2.out.1⟩
      | true =>
        rw [hw2] at HG
        go_wp2_with fail
        go_ret
        exact ⟨by rw [HG.out]; rfl, H2.out.1⟩

set_option maxHeartbeats 2000000 in
set_option maxRecDepth 100000 in
theorem goodRel_any (r : Rl) (v : Value) (w : World) (h : IsRl w r v) :
    Calls Tryz.prog 98 #[v] w fun e x => e = .returned (.bool (gR r)) ∧ Below w.heap.size w x := by
  obtain ⟨ao, cap, no, nc, us, rfl, hl, hn⟩ := h
  have h0 := heap_alloc_new w (.cells #[.string r.name, .slice ao r.allow.length cap, .int .i64 r.expr.kind, .string r.expr.ta, .string r.expr.tb, .slice no r.expr.kids.length nc] tRl)
  have al := fresh_one w (.cells #[.string r.name, .slice ao r.allow.length cap, .int .i64 r.expr.kind, .string r.expr.ta, .string r.expr.tb, .slice no r.expr.kids.length nc] tRl)
  have H0 := Lib.hid (And.intro h0 al)
  obtain ⟨-, b1, -, -, -, -⟩ := box6 h0
  have HL := Lib.hid hl
  have HX := Lib.hid (fun x (hb : Below w.heap.size w x) => expression_any r.expr _ x (hn.below hb))
  have HW := Lib.hid (fun x => Tr.word_any r.name x)
  have HA := Lib.hid (fun a x => goodAllow_any a x)
  have HG := Lib.hid (show gR r = (Tr.word r.name && (errOf r.expr == 0) && r.allow.all gA) from rfl)
  have hbig : r.allow.length ≤ 9223372036854775807 := hl.big
  clear h0 al hl hn
  go_enter Tryz.func98, Tryz.ntmps98
  go_wp2_with fail
  go_loopw [10] (fun i wr => ∃ j : Nat, j ≤ r.allow.length ∧ i = .int .i64 j ∧ Hid ((r.allow.take j).all gA = true) ∧ Below (w.heap.size + 1) (w.alloc (.cells #[.string r.name, .slice ao r.allow.length cap, .int .i64 r.expr.kind, .string r.expr.ta, .string r.expr.tb, .slice no r.expr.kids.length nc] tRl)) wr) (fun i _ => r.allow.length - (intOf i).toNat)
  case atStart => exact ⟨0, by omega, rfl, Lib.hid rfl, Below.refl _ _⟩
  case round =>
    obtain ⟨j, hj, rfl, hall, hb⟩ := hrel
    have hbw := H0.out.2.trans (hb.mono (by omega))
    have hblk := (hb.block w.heap.size (by omega)).trans H0.out.1
    have HB := Lib.hid (And.intro hbw hblk)
    by_cases hlt : j < r.allow.length
    · obtain ⟨g, q, hix, hg, c0, c1, c2⟩ := al_at (HL.out.on hbw fun _ _ h => h) cap hlt
      have HS := Lib.hid (all_at hlt hall.out)
      have al1 := fresh_one wr (.cells #[.string r.allow[j].ty, .string r.allow[j].rel, .bool r.allow[j].wild] tAl)
      have HC := Lib.hid (HA.out r.allow[j] (wr.alloc (.cells #[.string r.allow[j].ty, .string r.allow[j].rel, .bool r.allow[j].wild] tAl)))
      have H1 := Lib.hid (And.intro al1 hb)
      clear hall hbw hblk hb al1 hg b1
      generalize r.allow[j] = a at *
      go_wp2_with fail
      refine HC.out.mono ?_
      rintro e x ⟨rfl, hx⟩
      have hx2 := H1.out.1.trans (hx.mono H1.out.1.size)
      have H2 := Lib.hid (And.intro (HB.out.1.trans (hx2.mono HB.out.1.size)) (H1.out.2.trans (hx2.mono (by have := H1.out.2.size; simp at this; omega))))
      clear hx hx2 HC c0 c1 c2
      cases hga : gA a with
      | false =>
        have HGA := Lib.hid hga
        go_wp2_with fail
        go_ret
        exact ⟨by rw [HG.out, HS.out.1 HGA.out, Bool.and_false]; rfl, H2.out.1⟩
      | true =>
        have HGA := Lib.hid hga
        go_wp2_with fail
        go_roundw
        case rel => exact ⟨j + 1, by omega, by go_num, Lib.hid (HS.out.2 HGA.out), H2.out.2⟩
        case measure => simp [intOf]; omega
    · have hj' : j = r.allow.length := by omega
      subst hj'
      have hall2 := hall.out
      rw [List.take_length] at hall2
      rw [hall2] at HG
      clear hall hall2 hb hbw hblk b1 hbig
      obtain ⟨b0, b1, b2, b3, b4, b5⟩ := box6 HB.out.2
      go_wp2_with fail
      refine (HX.out _ HB.out.1).mono ?_
      rintro e x ⟨hx, h⟩
      have H1 := Lib.hid (And.intro (HB.out.1.trans (hx.mono HB.out.1.size)) ((hx.block _ (Array.getElem?_eq_some_iff.1 HB.out.2).1).trans HB.out.2))
      clear hx b0 b1 b2 b3 b4 b5
      rcases h with ⟨he, rfl⟩ | ⟨he, u, rfl, hu⟩
      · have he0 : (errOf r.expr == 0) = false := beq_eq_false_iff_ne.2 he
        rw [he0] at HG
        clear he he0
        go_wp2_with fail
        go_ret
        exact ⟨by rw [HG.out]; simp, H1.out.1⟩
      · obtain ⟨ut, uv, rfl⟩ := hu.iface
        obtain ⟨b0, b1, b2, b3, b4, b5⟩ := box6 H1.out.2
        have he0 : (errOf r.expr == 0) = true := by rw [he]; rfl
        rw [he0] at HG
        clear he he0 hu
        go_wp2_with fail
        refine (HW.out _).mono ?_
        rintro e y ⟨rfl, hy⟩
        have H2 := Lib.hid (H1.out.1.trans (hy.mono H1.out.1.size))
        clear hy
        go_wp2_with fail
        go_ret
        exact ⟨by rw [HG.out, Bool.and_true, Bool.and_true]; rfl, H2.out⟩

set_option maxHeartbeats 2000000 in
set_option maxRecDepth 100000 in
theorem goodType_any (t : Ty) (v : Value) (w : World) (h : IsTy w t v) :
    Calls Tryz.prog 59 #[v] w fun e x => e = .returned (.bool (gT t)) ∧ Below w.heap.size w x := by
  obtain ⟨ao, cap, us, rfl, hl⟩ := h
  have h0 := heap_alloc_new w (.cells #[.string t.name, .slice ao t.rels.length cap] tTy)
  have al := fresh_one w (.cells #[.string t.name, .slice ao t.rels.length cap] tTy)
  have H0 := Lib.hid (And.intro h0 al)
  obtain ⟨b0, b1⟩ := box2 h0
  have HL := Lib.hid hl
  have HW := Lib.hid (fun x => Tr.word_any t.name x)
  have HG := Lib.hid (show gT t = (Tr.word t.name && t.rels.all gR) from rfl)
  have hbig : t.rels.length ≤ 9223372036854775807 := hl.big
  clear h0 al hl b0
  go_enter Tryz.func59, Tryz.ntmps59
  go_wp2_with fail
  go_loopw [8] (fun i wr => ∃ j : Nat, j ≤ t.rels.length ∧ i = .int .i64 j ∧ Hid ((t.rels.take j).all gR = true) ∧ Below (w.heap.size + 1) (w.alloc (.cells #[.string t.name, .slice ao t.rels.length cap] tTy)) wr) (fun i _ => t.rels.length - (intOf i).toNat)
  case atStart => exact ⟨0, by omega, rfl, Lib.hid rfl, Below.refl _ _⟩
  case round =>
    obtain ⟨j, hj, rfl, hall, hb⟩ := hrel
    have hbw := H0.out.2.trans (hb.mono (by omega))
    have hblk := (hb.block w.heap.size (by omega)).trans H0.out.1
    have HB := Lib.hid (And.intro hbw hblk)
    by_cases hlt : j < t.rels.length
    · obtain ⟨g, q, ro, rc, no, nc, vs, hix, hg, c0, c1, c2, c3, c4, c5, hla, hn⟩ := rl_at (HL.out.on hbw fun _ _ h => h.below hbw) cap hlt
      have HS := Lib.hid (all_at hlt hall.out)
      generalize t.rels[j] = r at *
      have al1 := fresh_one wr (.cells #[.string r.name, .slice ro r.allow.length rc, .int .i64 r.expr.kind, .string r.expr.ta, .string r.expr.tb, .slice no r.expr.kids.length nc] tRl)
      have HC := Lib.hid (goodRel_any r (relV r (.slice ro r.allow.length rc) (.slice no r.expr.kids.length nc)) (wr.alloc (.cells #[.string r.name, .slice ro r.allow.length rc, .int .i64 r.expr.kind, .string r.expr.ta, .string r.expr.tb, .slice no r.expr.kids.length nc] tRl)) ⟨ro, rc, no, nc, vs, rfl, hla.on al1 fun _ _ h => h, hn.below al1⟩)
      have H1 := Lib.hid (And.intro al1 hb)
      clear hall hbw hblk hb al1 hg b1 hla hn
      go_wp2_with fail
      refine HC.out.mono ?_
      rintro e x ⟨rfl, hx⟩
      have hx2 := H1.out.1.trans (hx.mono H1.out.1.size)
      have H2 := Lib.hid (And.intro (HB.out.1.trans (hx2.mono HB.out.1.size)) (H1.out.2.trans (hx2.mono (by have := H1.out.2.size; simp at this; omega))))
      clear hx hx2 HC c0 c1 c2 c3 c4 c5
      cases hga : gR r with
      | false =>
        have HGA := Lib.hid hga
        go_wp2_with fail
        go_ret
        exact ⟨by rw [HG.out, HS.out.1 HGA.out, Bool.and_false]; rfl, H2.out.1⟩
      | true =>
        have HGA := Lib.hid hga
        go_wp2_with fail
        go_roundw
        case rel => exact ⟨j + 1, by omega, by go_num, Lib.hid (HS.out.2 HGA.out), H2.out.2⟩
        case measure => simp [intOf]; omega
    · have hj' : j = t.rels.length := by omega
      subst hj'
      have hall2 := hall.out
      rw [List.take_length] at hall2
      rw [hall2] at HG
      clear hall hall2 hb hbw hblk b1 hbig
      obtain ⟨b0, b1⟩ := box2 HB.out.2
      go_wp2_with fail
      refine (HW.out _).mono ?_
      rintro e y ⟨rfl, hy⟩
      have H2 := Lib.hid (HB.out.1.trans (hy.mono HB.out.1.size))
      clear hy
      go_wp2_with fail
      go_ret
      exact ⟨by rw [HG.out, Bool.and_true]; rfl, H2.out⟩

set_option maxHeartbeats 2000000 in
set_option maxRecDepth 100000 in
theorem Good_any (l : List Ty) (v : Value) (w : World) (h : IsCf w l v) :
    Calls Tryz.prog 28 #[v] w fun e x => e = .returned (.bool (gC l)) ∧ Below w.heap.size w x := by
  obtain ⟨ao, cap, us, rfl, hl⟩ := h
  have h0 := heap_alloc_new w (.cells #[.slice ao l.length cap] tCf)
  have al := fresh_one w (.cells #[.slice ao l.length cap] tCf)
  have H0 := Lib.hid (And.intro h0 al)
  have b0 := box1 h0
  have HL := Lib.hid hl
  have HG := Lib.hid (show gC l = l.all gT from rfl)
  have hbig : l.length ≤ 9223372036854775807 := hl.big
  clear h0 al hl
  go_enter Tryz.func28, Tryz.ntmps28
  go_wp2_with fail
  go_loopw [8] (fun i wr => ∃ j : Nat, j ≤ l.length ∧ i = .int .i64 j ∧ Hid ((l.take j).all gT = true) ∧ Below w.heap.size w wr) (fun i _ => l.length - (intOf i).toNat)
  case atStart => exact ⟨0, by omega, rfl, Lib.hid rfl, H0.out.2⟩
  case round =>
    obtain ⟨j, hj, rfl, hall, hb⟩ := hrel
    have HB := Lib.hid hb
    by_cases hlt : j < l.length
    · obtain ⟨g, q, ro, rc, vs, hix, hg, c0, c1, hla⟩ := ty_at (HL.out.on hb fun _ _ h => h.below hb) cap hlt
      have HS := Lib.hid (all_at hlt hall.out)
      generalize l[j] = t at *
      have al1 := fresh_one wr (.cells #[.string t.name, .slice ro t.rels.length rc] tTy)
      have HC := Lib.hid (goodType_any t (tyV t (.slice ro t.rels.length rc)) (wr.alloc (.cells #[.string t.name, .slice ro t.rels.length rc] tTy)) ⟨ro, rc, vs, rfl, hla.on al1 fun _ _ h => h.below al1⟩)
      have H1 := Lib.hid al1
      clear hall hb al1 hg hla b0
      go_wp2_with fail
      refine HC.out.mono ?_
      rintro e x ⟨rfl, hx⟩
      have hx2 := H1.out.trans (hx.mono H1.out.size)
      have H2 := Lib.hid (HB.out.trans (hx2.mono HB.out.size))
      clear hx hx2 HC c0 c1
      cases hga : gT t with
      | false =>
        have HGA := Lib.hid hga
        go_wp2_with fail
        go_ret
        exact ⟨by rw [HG.out, HS.out.1 HGA.out]; rfl, H2.out⟩
      | true =>
        have HGA := Lib.hid hga
        go_wp2_with fail
        go_roundw
        case rel => exact ⟨j + 1, by omega, by go_num, Lib.hid (HS.out.2 HGA.out), H2.out⟩
        case measure => simp [intOf]; omega
    · have hj' : j = l.length := by omega
      subst hj'
      have hall2 := hall.out
      rw [List.take_length] at hall2
      rw [hall2] at HG
      clear hall hall2 b0
      go_wp2_with fail
      go_ret
      exact ⟨by rw [HG.out]; rfl, HB.out⟩
end Cn
end Go.Proofs.YtopncohhagebbaaGreatDoor
