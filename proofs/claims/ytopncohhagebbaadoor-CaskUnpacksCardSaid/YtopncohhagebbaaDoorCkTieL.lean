/-
  Layer 10 (cask): tieList, at nodes, allowances, relations, types. Written by gen/mk_ct.py.
-/
import Derived.Test.YtopncohhagebbaaDoorKnAwake
import Derived.Test.YtopncohhagebbaaDoorCgB
import Derived.Test.YtopncohhagebbaaDoorCkGood
namespace Go.Proofs.YtopncohhagebbaaDoor
open Go.RowKit Go.Sort
namespace Ck
open Knot (Turns NewRow Kn KStep Tied ptr Tab number tab_on number_good)
open Tr (Nd none0 node4 IsNode)
open Who (bs bs_list bs_size bs_self eq_of_list)
open Gr (Al Rl Ty IsAl IsRl IsTy IsCf Lies ty_at rl_at al_at alV relV tyV)

/-- A thing that a function of the program ties. -/
def Runs {α : Type} (P : World → α → Value → Prop) (W : World) (f : FuncId) (g : α → List UInt8) (a : α) : Prop :=
  ∀ (K : Nat) (v : Value) (l : List UInt8) (w : World) (u : Value), Kn W.heap.size w K v l → P W a u → Below W.heap.size W w → l.length + (g a).length ≤ 60000000 → Calls Tryd.prog f #[ptr K, u] w (Tied W.heap.size K v l (g a) w)
theorem flat_part {α : Type} (g : α → List UInt8) (l : List α) (i : Nat) : ((l.take i).flatMap g).length ≤ (l.flatMap g).length := by
  have h : l.flatMap g = (l.take i).flatMap g ++ (l.drop i).flatMap g := by rw [← List.flatMap_append, List.take_append_drop]
  rw [h, List.length_append]
  omega
theorem flat_next {α : Type} (g : α → List UInt8) (l : List α) (i : Nat) (hi : i < l.length) : (l.take (i + 1)).flatMap g = (l.take i).flatMap g ++ g l[i] := by
  rw [List.take_succ_eq_append_getElem hi, List.flatMap_append, List.flatMap_cons, List.flatMap_nil, List.append_nil]

set_option maxHeartbeats 8000000 in
set_option maxRecDepth 100000 in
theorem tieN_any (W : World) (hT : Tab W.heap.size W) (g : Nd → List UInt8) (hg1 : ∀ a, 1 ≤ (g a).length) (f : FuncId) (HE : ∀ args x, (callFunc f args).run Tryd.prog x = .ok (.enter f args) x) (l : List Nd) (ao : Option Addr) (us : List Value) (cap : Nat) (hl : Tr.Kids W l ao us)
    (hr : ∀ a ∈ l, Runs IsNode W f g a) (K : Nat) (v : Value) (l0 : List UInt8) (w : World) (h : Kn W.heap.size w K v l0) (hb : Below W.heap.size W w) (hz : l0.length + (listB g l).length ≤ 60000000) :
    Calls Tryd.prog 63 #[ptr K, .slice ao l.length cap, .func (.func f) #[] #[]] w (Tied W.heap.size K v l0 (listB g l) w) := by
  have hlen := listB_len hg1 l
  have hbl : (listB g l).length = (number l.length).length + (l.flatMap g).length := by rw [listB, List.length_append]
  have HC := Lib.hid (number_good W.heap.size K l.length v l0 w h (by omega) (by omega) (tab_on hT hb))
  have HZ := Lib.hid (And.intro hz hbl)
  have HL := Lib.hid hl
  have HR := Lib.hid hr
  have HB := Lib.hid hb
  have HK := Lib.hid h
  have hl6 : l.length ≤ 60000000 := by omega
  clear h hb hz hl hr hlen hbl hT hg1
  go_enter Tryd.func63, Tryd.ntmps63
  go_wp2_with fail
  refine HC.out.mono ?_
  rintro e w1 ⟨rfl, v1, k1, s1⟩
  have H1 := Lib.hid (show Kn W.heap.size w1 K v1 (l0 ++ number l.length ++ (l.take 0).flatMap g) ∧ KStep K v v1 w w1 ∧ Below W.heap.size W w1 from ⟨by simpa using k1, s1, HB.out.trans (s1.below HK.out)⟩)
  clear k1 s1 HC
  go_wp2_with fail
  go_loopw [14] (fun iv wr => ∃ (i : Nat) (vi : Value), i ≤ l.length ∧ iv = .int .i64 i ∧ Hid (Kn W.heap.size wr K vi (l0 ++ number l.length ++ (l.take i).flatMap g) ∧ KStep K v vi w wr ∧ Below W.heap.size W wr)) (fun iv _ => l.length - (intOf iv).toNat)
  case atStart => exact ⟨0, v1, by omega, rfl, H1⟩
  case round =>
    clear H1
    obtain ⟨i, vi, hi, rfl, HI⟩ := hrel
    by_cases hlt : i < l.length
    · obtain ⟨gb, q, sa, sc, hix, hg, c0, c1, c2, c3, hP⟩ := HL.out.at cap hlt
      have d0 := (HI.out.2.2.cell (p := ⟨gb, q, none⟩) hg).trans c0
      have d1 := (HI.out.2.2.cell (p := ⟨gb, q + 1, none⟩) hg).trans c1
      have d2 := (HI.out.2.2.cell (p := ⟨gb, q + 2, none⟩) hg).trans c2
      have d3 := (HI.out.2.2.cell (p := ⟨gb, q + 3, none⟩) hg).trans c3
      have HRun := Lib.hid (HR.out l[i] (List.getElem_mem hlt))
      have hfl := flat_next g l i hlt
      have hle := flat_part g l (i + 1)
      have hle2 : (l0 ++ number l.length ++ (l.take i).flatMap g).length + (g l[i]).length ≤ 60000000 := by
        rw [hfl, List.length_append] at hle
        have := HZ.out
        rw [List.length_append, List.length_append]
        omega
      have HF := Lib.hid hfl
      have HP := Lib.hid hP
      have HG2 := Lib.hid hle2
      clear hfl hle hle2 hP hg c0 c1 c2 c3
      generalize l[i] = a at *
      have al := Tr.fresh_one wr (.cells #[.int .i64 a.kind, .string a.ta, .string a.tb, .slice sa a.kids.length sc] 52)
      have hk := heap_alloc_new wr (.cells #[.int .i64 a.kind, .string a.ta, .string a.tb, .slice sa a.kids.length sc] 52)
      have HX := Lib.hid (And.intro (HI.out.1.alloc (.cells #[.int .i64 a.kind, .string a.ta, .string a.tb, .slice sa a.kids.length sc] 52)) (And.intro (HI.out.2.1.then_below al) (And.intro (HI.out.2.2.trans (al.mono HI.out.2.2.size)) hk)))
      clear al hk HI
      go_upto_region 4 with fail
      generalize wr.alloc (.cells #[.int .i64 a.kind, .string a.ta, .string a.tb, .slice sa a.kids.length sc] 52) = X at *
      generalize wr.heap.size = Rb at *
      have HC2 := Lib.hid (HRun.out K vi _ X _ HX.out.1 HP.out HX.out.2.2.1 HG2.out)
      obtain ⟨e0, e1, e2, e3⟩ := box4 HX.out.2.2.2
      clear HRun d0 d1 d2 d3 hix
      go_wp2_with fail
      refine HC2.out.mono ?_
      rintro e y ⟨rfl, v2, k2, s2⟩
      have H2 := Lib.hid (show Kn W.heap.size y K v2 (l0 ++ number l.length ++ (l.take (i + 1)).flatMap g) ∧ KStep K v v2 w y ∧ Below W.heap.size W y from ⟨by rw [HF.out, ← List.append_assoc]; exact k2, HX.out.2.1.trans s2, HX.out.2.2.1.trans (s2.below HX.out.1)⟩)
      clear k2 s2 HC2 HX HP HF HG2 e0 e1 e2 e3
      go_wp2_with fail
      go_roundw
      case rel => exact ⟨i + 1, v2, by omega, by go_num, H2⟩
      case measure => simp [intOf]; omega
    · obtain rfl : i = l.length := by omega
      have hI := HI.out
      rw [List.take_length, List.append_assoc] at hI
      have HE2 := Lib.hid hI
      clear hI HI
      go_wp2_with fail
      go_end0
      exact ⟨rfl, vi, HE2.out.1, HE2.out.2.1⟩

set_option maxHeartbeats 8000000 in
set_option maxRecDepth 100000 in
theorem tieA_any (W : World) (hT : Tab W.heap.size W) (g : Al → List UInt8) (hg1 : ∀ a, 1 ≤ (g a).length) (f : FuncId) (HE : ∀ args x, (callFunc f args).run Tryd.prog x = .ok (.enter f args) x) (l : List Al) (ao : Option Addr) (us : List Value) (cap : Nat) (hl : Lies IsAl 3 W ao l us)
    (hr : ∀ a ∈ l, Runs IsAl W f g a) (K : Nat) (v : Value) (l0 : List UInt8) (w : World) (h : Kn W.heap.size w K v l0) (hb : Below W.heap.size W w) (hz : l0.length + (listB g l).length ≤ 60000000) :
    Calls Tryd.prog 51 #[ptr K, .slice ao l.length cap, .func (.func f) #[] #[]] w (Tied W.heap.size K v l0 (listB g l) w) := by
  have hlen := listB_len hg1 l
  have hbl : (listB g l).length = (number l.length).length + (l.flatMap g).length := by rw [listB, List.length_append]
  have HC := Lib.hid (number_good W.heap.size K l.length v l0 w h (by omega) (by omega) (tab_on hT hb))
  have HZ := Lib.hid (And.intro hz hbl)
  have HL := Lib.hid hl
  have HR := Lib.hid hr
  have HB := Lib.hid hb
  have HK := Lib.hid h
  have hl6 : l.length ≤ 60000000 := by omega
  clear h hb hz hl hr hlen hbl hT hg1
  go_enter Tryd.func51, Tryd.ntmps51
  go_wp2_with fail
  refine HC.out.mono ?_
  rintro e w1 ⟨rfl, v1, k1, s1⟩
  have H1 := Lib.hid (show Kn W.heap.size w1 K v1 (l0 ++ number l.length ++ (l.take 0).flatMap g) ∧ KStep K v v1 w w1 ∧ Below W.heap.size W w1 from ⟨by simpa using k1, s1, HB.out.trans (s1.below HK.out)⟩)
  clear k1 s1 HC
  go_wp2_with fail
  go_loopw [14] (fun iv wr => ∃ (i : Nat) (vi : Value), i ≤ l.length ∧ iv = .int .i64 i ∧ Hid (Kn W.heap.size wr K vi (l0 ++ number l.length ++ (l.take i).flatMap g) ∧ KStep K v vi w wr ∧ Below W.heap.size W wr)) (fun iv _ => l.length - (intOf iv).toNat)
  case atStart => exact ⟨0, v1, by omega, rfl, H1⟩
  case round =>
    clear H1
    obtain ⟨i, vi, hi, rfl, HI⟩ := hrel
    by_cases hlt : i < l.length
    · obtain ⟨gb, q, hix, hg, c0, c1, c2⟩ := al_at HL.out cap hlt
      have hP : IsAl W l[i] (alV l[i]) := rfl
      have d0 := (HI.out.2.2.cell (p := ⟨gb, q, none⟩) hg).trans c0
      have d1 := (HI.out.2.2.cell (p := ⟨gb, q + 1, none⟩) hg).trans c1
      have d2 := (HI.out.2.2.cell (p := ⟨gb, q + 2, none⟩) hg).trans c2
      have HRun := Lib.hid (HR.out l[i] (List.getElem_mem hlt))
      have hfl := flat_next g l i hlt
      have hle := flat_part g l (i + 1)
      have hle2 : (l0 ++ number l.length ++ (l.take i).flatMap g).length + (g l[i]).length ≤ 60000000 := by
        rw [hfl, List.length_append] at hle
        have := HZ.out
        rw [List.length_append, List.length_append]
        omega
      have HF := Lib.hid hfl
      have HP := Lib.hid hP
      have HG2 := Lib.hid hle2
      clear hfl hle hle2 hP hg c0 c1 c2
      generalize l[i] = a at *
      have al := Tr.fresh_one wr (.cells #[.string a.ty, .string a.rel, .bool a.wild] 59)
      have hk := heap_alloc_new wr (.cells #[.string a.ty, .string a.rel, .bool a.wild] 59)
      have HX := Lib.hid (And.intro (HI.out.1.alloc (.cells #[.string a.ty, .string a.rel, .bool a.wild] 59)) (And.intro (HI.out.2.1.then_below al) (And.intro (HI.out.2.2.trans (al.mono HI.out.2.2.size)) hk)))
      clear al hk HI
      go_upto_region 4 with fail
      generalize wr.alloc (.cells #[.string a.ty, .string a.rel, .bool a.wild] 59) = X at *
      generalize wr.heap.size = Rb at *
      have HC2 := Lib.hid (HRun.out K vi _ X _ HX.out.1 HP.out HX.out.2.2.1 HG2.out)
      obtain ⟨e0, e1, e2⟩ := box3 HX.out.2.2.2
      clear HRun d0 d1 d2 hix
      go_wp2_with fail
      refine HC2.out.mono ?_
      rintro e y ⟨rfl, v2, k2, s2⟩
      have H2 := Lib.hid (show Kn W.heap.size y K v2 (l0 ++ number l.length ++ (l.take (i + 1)).flatMap g) ∧ KStep K v v2 w y ∧ Below W.heap.size W y from ⟨by rw [HF.out, ← List.append_assoc]; exact k2, HX.out.2.1.trans s2, HX.out.2.2.1.trans (s2.below HX.out.1)⟩)
      clear k2 s2 HC2 HX HP HF HG2 e0 e1 e2
      go_wp2_with fail
      go_roundw
      case rel => exact ⟨i + 1, v2, by omega, by go_num, H2⟩
      case measure => simp [intOf]; omega
    · obtain rfl : i = l.length := by omega
      have hI := HI.out
      rw [List.take_length, List.append_assoc] at hI
      have HE2 := Lib.hid hI
      clear hI HI
      go_wp2_with fail
      go_end0
      exact ⟨rfl, vi, HE2.out.1, HE2.out.2.1⟩

set_option maxHeartbeats 8000000 in
set_option maxRecDepth 100000 in
theorem tieR_any (W : World) (hT : Tab W.heap.size W) (g : Rl → List UInt8) (hg1 : ∀ a, 1 ≤ (g a).length) (f : FuncId) (HE : ∀ args x, (callFunc f args).run Tryd.prog x = .ok (.enter f args) x) (l : List Rl) (ao : Option Addr) (us : List Value) (cap : Nat) (hl : Lies IsRl 6 W ao l us)
    (hr : ∀ a ∈ l, Runs IsRl W f g a) (K : Nat) (v : Value) (l0 : List UInt8) (w : World) (h : Kn W.heap.size w K v l0) (hb : Below W.heap.size W w) (hz : l0.length + (listB g l).length ≤ 60000000) :
    Calls Tryd.prog 35 #[ptr K, .slice ao l.length cap, .func (.func f) #[] #[]] w (Tied W.heap.size K v l0 (listB g l) w) := by
  have hlen := listB_len hg1 l
  have hbl : (listB g l).length = (number l.length).length + (l.flatMap g).length := by rw [listB, List.length_append]
  have HC := Lib.hid (number_good W.heap.size K l.length v l0 w h (by omega) (by omega) (tab_on hT hb))
  have HZ := Lib.hid (And.intro hz hbl)
  have HL := Lib.hid hl
  have HR := Lib.hid hr
  have HB := Lib.hid hb
  have HK := Lib.hid h
  have hl6 : l.length ≤ 60000000 := by omega
  clear h hb hz hl hr hlen hbl hT hg1
  go_enter Tryd.func35, Tryd.ntmps35
  go_wp2_with fail
  refine HC.out.mono ?_
  rintro e w1 ⟨rfl, v1, k1, s1⟩
  have H1 := Lib.hid (show Kn W.heap.size w1 K v1 (l0 ++ number l.length ++ (l.take 0).flatMap g) ∧ KStep K v v1 w w1 ∧ Below W.heap.size W w1 from ⟨by simpa using k1, s1, HB.out.trans (s1.below HK.out)⟩)
  clear k1 s1 HC
  go_wp2_with fail
  go_loopw [14] (fun iv wr => ∃ (i : Nat) (vi : Value), i ≤ l.length ∧ iv = .int .i64 i ∧ Hid (Kn W.heap.size wr K vi (l0 ++ number l.length ++ (l.take i).flatMap g) ∧ KStep K v vi w wr ∧ Below W.heap.size W wr)) (fun iv _ => l.length - (intOf iv).toNat)
  case atStart => exact ⟨0, v1, by omega, rfl, H1⟩
  case round =>
    clear H1
    obtain ⟨i, vi, hi, rfl, HI⟩ := hrel
    by_cases hlt : i < l.length
    · obtain ⟨gb, q, ro, rc, no, nc, vs, hix, hg, c0, c1, c2, c3, c4, c5, hla, hnd⟩ := rl_at HL.out cap hlt
      have hP : IsRl W l[i] (relV l[i] (.slice ro l[i].allow.length rc) (.slice no l[i].expr.kids.length nc)) := ⟨ro, rc, no, nc, vs, rfl, hla, hnd⟩
      clear hla hnd
      have d0 := (HI.out.2.2.cell (p := ⟨gb, q, none⟩) hg).trans c0
      have d1 := (HI.out.2.2.cell (p := ⟨gb, q + 1, none⟩) hg).trans c1
      have d2 := (HI.out.2.2.cell (p := ⟨gb, q + 2, none⟩) hg).trans c2
      have d3 := (HI.out.2.2.cell (p := ⟨gb, q + 3, none⟩) hg).trans c3
      have d4 := (HI.out.2.2.cell (p := ⟨gb, q + 4, none⟩) hg).trans c4
      have d5 := (HI.out.2.2.cell (p := ⟨gb, q + 5, none⟩) hg).trans c5
      have HRun := Lib.hid (HR.out l[i] (List.getElem_mem hlt))
      have hfl := flat_next g l i hlt
      have hle := flat_part g l (i + 1)
      have hle2 : (l0 ++ number l.length ++ (l.take i).flatMap g).length + (g l[i]).length ≤ 60000000 := by
        rw [hfl, List.length_append] at hle
        have := HZ.out
        rw [List.length_append, List.length_append]
        omega
      have HF := Lib.hid hfl
      have HP := Lib.hid hP
      have HG2 := Lib.hid hle2
      clear hfl hle hle2 hP hg c0 c1 c2 c3 c4 c5
      generalize l[i] = a at *
      have al := Tr.fresh_one wr (.cells #[.string a.name, .slice ro a.allow.length rc, .int .i64 a.expr.kind, .string a.expr.ta, .string a.expr.tb, .slice no a.expr.kids.length nc] 54)
      have hk := heap_alloc_new wr (.cells #[.string a.name, .slice ro a.allow.length rc, .int .i64 a.expr.kind, .string a.expr.ta, .string a.expr.tb, .slice no a.expr.kids.length nc] 54)
      have HX := Lib.hid (And.intro (HI.out.1.alloc (.cells #[.string a.name, .slice ro a.allow.length rc, .int .i64 a.expr.kind, .string a.expr.ta, .string a.expr.tb, .slice no a.expr.kids.length nc] 54)) (And.intro (HI.out.2.1.then_below al) (And.intro (HI.out.2.2.trans (al.mono HI.out.2.2.size)) hk)))
      clear al hk HI
      go_upto_region 4 with fail
      generalize wr.alloc (.cells #[.string a.name, .slice ro a.allow.length rc, .int .i64 a.expr.kind, .string a.expr.ta, .string a.expr.tb, .slice no a.expr.kids.length nc] 54) = X at *
      generalize wr.heap.size = Rb at *
      have HC2 := Lib.hid (HRun.out K vi _ X _ HX.out.1 HP.out HX.out.2.2.1 HG2.out)
      obtain ⟨e0, e1, e2, e3, e4, e5⟩ := box6 HX.out.2.2.2
      clear HRun d0 d1 d2 d3 d4 d5 hix
      go_wp2_with fail
      refine HC2.out.mono ?_
      rintro e y ⟨rfl, v2, k2, s2⟩
      have H2 := Lib.hid (show Kn W.heap.size y K v2 (l0 ++ number l.length ++ (l.take (i + 1)).flatMap g) ∧ KStep K v v2 w y ∧ Below W.heap.size W y from ⟨by rw [HF.out, ← List.append_assoc]; exact k2, HX.out.2.1.trans s2, HX.out.2.2.1.trans (s2.below HX.out.1)⟩)
      clear k2 s2 HC2 HX HP HF HG2 e0 e1 e2 e3 e4 e5
      go_wp2_with fail
      go_roundw
      case rel => exact ⟨i + 1, v2, by omega, by go_num, H2⟩
      case measure => simp [intOf]; omega
    · obtain rfl : i = l.length := by omega
      have hI := HI.out
      rw [List.take_length, List.append_assoc] at hI
      have HE2 := Lib.hid hI
      clear hI HI
      go_wp2_with fail
      go_end0
      exact ⟨rfl, vi, HE2.out.1, HE2.out.2.1⟩

set_option maxHeartbeats 8000000 in
set_option maxRecDepth 100000 in
theorem tieT_any (W : World) (hT : Tab W.heap.size W) (g : Ty → List UInt8) (hg1 : ∀ a, 1 ≤ (g a).length) (f : FuncId) (HE : ∀ args x, (callFunc f args).run Tryd.prog x = .ok (.enter f args) x) (l : List Ty) (ao : Option Addr) (us : List Value) (cap : Nat) (hl : Lies IsTy 2 W ao l us)
    (hr : ∀ a ∈ l, Runs IsTy W f g a) (K : Nat) (v : Value) (l0 : List UInt8) (w : World) (h : Kn W.heap.size w K v l0) (hb : Below W.heap.size W w) (hz : l0.length + (listB g l).length ≤ 60000000) :
    Calls Tryd.prog 20 #[ptr K, .slice ao l.length cap, .func (.func f) #[] #[]] w (Tied W.heap.size K v l0 (listB g l) w) := by
  have hlen := listB_len hg1 l
  have hbl : (listB g l).length = (number l.length).length + (l.flatMap g).length := by rw [listB, List.length_append]
  have HC := Lib.hid (number_good W.heap.size K l.length v l0 w h (by omega) (by omega) (tab_on hT hb))
  have HZ := Lib.hid (And.intro hz hbl)
  have HL := Lib.hid hl
  have HR := Lib.hid hr
  have HB := Lib.hid hb
  have HK := Lib.hid h
  have hl6 : l.length ≤ 60000000 := by omega
  clear h hb hz hl hr hlen hbl hT hg1
  go_enter Tryd.func20, Tryd.ntmps20
  go_wp2_with fail
  refine HC.out.mono ?_
  rintro e w1 ⟨rfl, v1, k1, s1⟩
  have H1 := Lib.hid (show Kn W.heap.size w1 K v1 (l0 ++ number l.length ++ (l.take 0).flatMap g) ∧ KStep K v v1 w w1 ∧ Below W.heap.size W w1 from ⟨by simpa using k1, s1, HB.out.trans (s1.below HK.out)⟩)
  clear k1 s1 HC
  go_wp2_with fail
  go_loopw [14] (fun iv wr => ∃ (i : Nat) (vi : Value), i ≤ l.length ∧ iv = .int .i64 i ∧ Hid (Kn W.heap.size wr K vi (l0 ++ number l.length ++ (l.take i).flatMap g) ∧ KStep K v vi w wr ∧ Below W.heap.size W wr)) (fun iv _ => l.length - (intOf iv).toNat)
  case atStart => exact ⟨0, v1, by omega, rfl, H1⟩
  case round =>
    clear H1
    obtain ⟨i, vi, hi, rfl, HI⟩ := hrel
    by_cases hlt : i < l.length
    · obtain ⟨gb, q, ro, rc, vs, hix, hg, c0, c1, hla⟩ := ty_at HL.out cap hlt
      have hP : IsTy W l[i] (tyV l[i] (.slice ro l[i].rels.length rc)) := ⟨ro, rc, vs, rfl, hla⟩
      clear hla
      have d0 := (HI.out.2.2.cell (p := ⟨gb, q, none⟩) hg).trans c0
      have d1 := (HI.out.2.2.cell (p := ⟨gb, q + 1, none⟩) hg).trans c1
      have HRun := Lib.hid (HR.out l[i] (List.getElem_mem hlt))
      have hfl := flat_next g l i hlt
      have hle := flat_part g l (i + 1)
      have hle2 : (l0 ++ number l.length ++ (l.take i).flatMap g).length + (g l[i]).length ≤ 60000000 := by
        rw [hfl, List.length_append] at hle
        have := HZ.out
        rw [List.length_append, List.length_append]
        omega
      have HF := Lib.hid hfl
      have HP := Lib.hid hP
      have HG2 := Lib.hid hle2
      clear hfl hle hle2 hP hg c0 c1
      generalize l[i] = a at *
      have al := Tr.fresh_one wr (.cells #[.string a.name, .slice ro a.rels.length rc] 38)
      have hk := heap_alloc_new wr (.cells #[.string a.name, .slice ro a.rels.length rc] 38)
      have HX := Lib.hid (And.intro (HI.out.1.alloc (.cells #[.string a.name, .slice ro a.rels.length rc] 38)) (And.intro (HI.out.2.1.then_below al) (And.intro (HI.out.2.2.trans (al.mono HI.out.2.2.size)) hk)))
      clear al hk HI
      go_upto_region 4 with fail
      generalize wr.alloc (.cells #[.string a.name, .slice ro a.rels.length rc] 38) = X at *
      generalize wr.heap.size = Rb at *
      have HC2 := Lib.hid (HRun.out K vi _ X _ HX.out.1 HP.out HX.out.2.2.1 HG2.out)
      obtain ⟨e0, e1⟩ := box2 HX.out.2.2.2
      clear HRun d0 d1 hix
      go_wp2_with fail
      refine HC2.out.mono ?_
      rintro e y ⟨rfl, v2, k2, s2⟩
      have H2 := Lib.hid (show Kn W.heap.size y K v2 (l0 ++ number l.length ++ (l.take (i + 1)).flatMap g) ∧ KStep K v v2 w y ∧ Below W.heap.size W y from ⟨by rw [HF.out, ← List.append_assoc]; exact k2, HX.out.2.1.trans s2, HX.out.2.2.1.trans (s2.below HX.out.1)⟩)
      clear k2 s2 HC2 HX HP HF HG2 e0 e1
      go_wp2_with fail
      go_roundw
      case rel => exact ⟨i + 1, v2, by omega, by go_num, H2⟩
      case measure => simp [intOf]; omega
    · obtain rfl : i = l.length := by omega
      have hI := HI.out
      rw [List.take_length, List.append_assoc] at hI
      have HE2 := Lib.hid hI
      clear hI HI
      go_wp2_with fail
      go_end0
      exact ⟨rfl, vi, HE2.out.1, HE2.out.2.1⟩
end Ck
end Go.Proofs.YtopncohhagebbaaDoor
