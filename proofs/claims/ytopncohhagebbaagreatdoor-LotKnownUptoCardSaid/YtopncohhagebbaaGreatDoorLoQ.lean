/-
  Layer 11: whether a question is known, by the program and by the document; the document's Fit.
  Layer 11: the document's Fit; whether a configuration is sound.
-/
import Derived.Test.YtopncohhagebbaaGreatDoorLoP
import Derived.Test.YtopncohhagebbaaGreatDoorBgB
import Derived.Test.YtopncohhagebbaaGreatDoorLgK
namespace Go.Proofs.YtopncohhagebbaaGreatDoor
open Go.RowKit
namespace Lo
open Tr (Nd IsNode node4 none0)
open Gr (Al Rl Ty IsAl IsRl IsTy IsCf Lies ty_at al_at alV relV tyV tAl tRl tTy tCf box1 box2 box6)
open Cn (box3)
open Lt (same relC relT zR two any_take)
open Bond (L3 kind3 goodB tupV)
open Who (bs bs_list bs_self bs_size)

set_option maxHeartbeats 8000000 in
set_option maxRecDepth 100000 in
theorem known0 (l : List Ty) (v : Value) (w : World) (h : IsCf w l v) (t i r : ByteArray) (y : L3) (hk : kind3 y = 0) :
    Calls Tryz.prog 21 #[v, .agg #[.string t, .string i], .string r, agg3 y] w fun e x => e = .returned (.int .i64 (knownP l t i r y)) ∧ Below w.heap.size w x := by
  have HS := Lib.hid (fun x => Who.set_free (bs y.1) (bs y.2.1) (bs y.2.2) x)
  have HO := Lib.hid (fun x => Who.one_free (bs y.1) (bs y.2.1) (bs y.2.2) x)
  simp only [bs_list, Who.set_eq, Who.one_eq] at HS HO
  rw [show Who.kind y.1 y.2.1 y.2.2 = 0 from hk] at HS HO
  rw [show ((0 : Nat) == 2) = false from rfl] at HS
  rw [show ((0 : Nat) == 1) = false from rfl] at HO
  have HG := Lib.hid (fun x => Bond.goodO_free t i x)
  have HN := Lib.hid (fun x => Gl.name_free r x)
  have HR := Lib.hid (fun x (hx : Below w.heap.size w x) => hasRel_any l v x (h.below hx) t r)
  have HT := Lib.hid (fun x (hx : Below w.heap.size w x) => hasType_any l v x (h.below hx) (bs y.1))
  have HU := Lib.hid (fun x (hx : Below w.heap.size w x) => hasRel_any l v x (h.below hx) (bs y.1) (bs y.2.2))
  have HE := Lib.hid (show knownP l t i r y = knownV ((Gly.nameB t.data.toList && Gly.idB i.data.toList) && Gly.nameB r.data.toList) 0 (relC l t r).isSome (hasT l (bs y.1)) (relC l (bs y.1) (bs y.2.2)).isSome from by rw [knownP, hk])
  clear hk
  generalize (Gly.nameB t.data.toList && Gly.idB i.data.toList) = go at *
  generalize Gly.nameB r.data.toList = nr at *
  generalize (relC l t r).isSome = s at *
  generalize hasT l (bs y.1) = ht at *
  generalize (relC l (bs y.1) (bs y.2.2)).isSome = u at *
  obtain ⟨ao, cap, us, rfl, -⟩ := h
  have H0 := Lib.hid ((((On.start w).new #[.slice ao l.length cap] tCf rfl).new #[.string t, .string i] 63 (n := w.heap.size + 1) (by simp)).new #[.string (bs y.1), .string (bs y.2.1), .string (bs y.2.2)] 55 (n := w.heap.size + 1 + 1) (by simp))
  obtain ⟨s0, s1, s2⟩ := box3 H0.out.at0
  obtain ⟨o0, o1⟩ := box2 H0.out.at1
  have b0 := box1 H0.out.at2
  go_enter Tryz.func21, Tryz.ntmps21
  go_wp2_with fail
  refine (HS.out _).mono ?_
  rintro e x1 ⟨rfl, hx⟩
  have H1 := Lib.hid (H0.out.step hx)
  clear hx
  clear s0 s1 s2 o0 o1 b0
  obtain ⟨s0, s1, s2⟩ := box3 H1.out.at0
  obtain ⟨o0, o1⟩ := box2 H1.out.at1
  have b0 := box1 H1.out.at2
  go_wp2_with fail
  refine (HG.out _).mono ?_
  rintro e x2 ⟨rfl, hx⟩
  have H2 := Lib.hid (H1.out.step hx)
  clear hx
  clear s0 s1 s2 o0 o1 b0
  cases go with
  | false =>
    go_wp2_with fail
    go_ret
    exact ⟨by rw [HE.out]; rfl, H2.out.below⟩
  | true =>
    obtain ⟨s0, s1, s2⟩ := box3 H2.out.at0
    obtain ⟨o0, o1⟩ := box2 H2.out.at1
    have b0 := box1 H2.out.at2
    go_wp2_with fail
    refine (HN.out _).mono ?_
    rintro e x3 ⟨rfl, hx⟩
    have H3 := Lib.hid (H2.out.step hx)
    clear hx
    clear s0 s1 s2 o0 o1 b0
    cases nr with
    | false =>
      go_wp2_with fail
      go_ret
      exact ⟨by rw [HE.out]; rfl, H3.out.below⟩
    | true =>
      obtain ⟨s0, s1, s2⟩ := box3 H3.out.at0
      obtain ⟨o0, o1⟩ := box2 H3.out.at1
      have b0 := box1 H3.out.at2
      go_wp2_with fail
      refine (HO.out _).mono ?_
      rintro e x4 ⟨rfl, hx⟩
      have H4 := Lib.hid (H3.out.step hx)
      clear hx
      clear s0 s1 s2 o0 o1 b0
      go_wp2_with fail
      go_ret
      exact ⟨by rw [HE.out]; rfl, H4.out.below⟩
set_option maxHeartbeats 8000000 in
set_option maxRecDepth 100000 in
theorem known1 (l : List Ty) (v : Value) (w : World) (h : IsCf w l v) (t i r : ByteArray) (y : L3) (hk : kind3 y = 1) :
    Calls Tryz.prog 21 #[v, .agg #[.string t, .string i], .string r, agg3 y] w fun e x => e = .returned (.int .i64 (knownP l t i r y)) ∧ Below w.heap.size w x := by
  have HS := Lib.hid (fun x => Who.set_free (bs y.1) (bs y.2.1) (bs y.2.2) x)
  have HO := Lib.hid (fun x => Who.one_free (bs y.1) (bs y.2.1) (bs y.2.2) x)
  simp only [bs_list, Who.set_eq, Who.one_eq] at HS HO
  rw [show Who.kind y.1 y.2.1 y.2.2 = 1 from hk] at HS HO
  rw [show ((1 : Nat) == 2) = false from rfl] at HS
  rw [show ((1 : Nat) == 1) = true from rfl] at HO
  have HG := Lib.hid (fun x => Bond.goodO_free t i x)
  have HN := Lib.hid (fun x => Gl.name_free r x)
  have HR := Lib.hid (fun x (hx : Below w.heap.size w x) => hasRel_any l v x (h.below hx) t r)
  have HT := Lib.hid (fun x (hx : Below w.heap.size w x) => hasType_any l v x (h.below hx) (bs y.1))
  have HU := Lib.hid (fun x (hx : Below w.heap.size w x) => hasRel_any l v x (h.below hx) (bs y.1) (bs y.2.2))
  have HE := Lib.hid (show knownP l t i r y = knownV ((Gly.nameB t.data.toList && Gly.idB i.data.toList) && Gly.nameB r.data.toList) 1 (relC l t r).isSome (hasT l (bs y.1)) (relC l (bs y.1) (bs y.2.2)).isSome from by rw [knownP, hk])
  clear hk
  generalize (Gly.nameB t.data.toList && Gly.idB i.data.toList) = go at *
  generalize Gly.nameB r.data.toList = nr at *
  generalize (relC l t r).isSome = s at *
  generalize hasT l (bs y.1) = ht at *
  generalize (relC l (bs y.1) (bs y.2.2)).isSome = u at *
  obtain ⟨ao, cap, us, rfl, -⟩ := h
  have H0 := Lib.hid ((((On.start w).new #[.slice ao l.length cap] tCf rfl).new #[.string t, .string i] 63 (n := w.heap.size + 1) (by simp)).new #[.string (bs y.1), .string (bs y.2.1), .string (bs y.2.2)] 55 (n := w.heap.size + 1 + 1) (by simp))
  obtain ⟨s0, s1, s2⟩ := box3 H0.out.at0
  obtain ⟨o0, o1⟩ := box2 H0.out.at1
  have b0 := box1 H0.out.at2
  go_enter Tryz.func21, Tryz.ntmps21
  go_wp2_with fail
  refine (HS.out _).mono ?_
  rintro e x1 ⟨rfl, hx⟩
  have H1 := Lib.hid (H0.out.step hx)
  clear hx
  clear s0 s1 s2 o0 o1 b0
  obtain ⟨s0, s1, s2⟩ := box3 H1.out.at0
  obtain ⟨o0, o1⟩ := box2 H1.out.at1
  have b0 := box1 H1.out.at2
  go_wp2_with fail
  refine (HG.out _).mono ?_
  rintro e x2 ⟨rfl, hx⟩
  have H2 := Lib.hid (H1.out.step hx)
  clear hx
  clear s0 s1 s2 o0 o1 b0
  cases go with
  | false =>
    go_wp2_with fail
    go_ret
    exact ⟨by rw [HE.out]; rfl, H2.out.below⟩
  | true =>
    obtain ⟨s0, s1, s2⟩ := box3 H2.out.at0
    obtain ⟨o0, o1⟩ := box2 H2.out.at1
    have b0 := box1 H2.out.at2
    go_wp2_with fail
    refine (HN.out _).mono ?_
    rintro e x3 ⟨rfl, hx⟩
    have H3 := Lib.hid (H2.out.step hx)
    clear hx
    clear s0 s1 s2 o0 o1 b0
    cases nr with
    | false =>
      go_wp2_with fail
      go_ret
      exact ⟨by rw [HE.out]; rfl, H3.out.below⟩
    | true =>
      obtain ⟨s0, s1, s2⟩ := box3 H3.out.at0
      obtain ⟨o0, o1⟩ := box2 H3.out.at1
      have b0 := box1 H3.out.at2
      go_wp2_with fail
      refine (HO.out _).mono ?_
      rintro e x4 ⟨rfl, hx⟩
      have H4 := Lib.hid (H3.out.step hx)
      clear hx
      clear s0 s1 s2 o0 o1 b0
      obtain ⟨s0, s1, s2⟩ := box3 H4.out.at0
      obtain ⟨o0, o1⟩ := box2 H4.out.at1
      have b0 := box1 H4.out.at2
      go_wp2_with fail
      refine (HR.out _ H4.out.below).mono ?_
      rintro e x5 ⟨rfl, hx⟩
      have H5 := Lib.hid (H4.out.step hx)
      clear hx
      clear s0 s1 s2 o0 o1 b0
      cases s with
      | false =>
        go_wp2_with fail
        go_ret
        exact ⟨by rw [HE.out]; rfl, H5.out.below⟩
      | true =>
        obtain ⟨s0, s1, s2⟩ := box3 H5.out.at0
        obtain ⟨o0, o1⟩ := box2 H5.out.at1
        have b0 := box1 H5.out.at2
        go_wp2_with fail
        refine (HT.out _ H5.out.below).mono ?_
        rintro e x6 ⟨rfl, hx⟩
        have H6 := Lib.hid (H5.out.step hx)
        clear hx
        clear s0 s1 s2 o0 o1 b0
        cases ht with
        | false =>
          go_wp2_with fail
          go_ret
          exact ⟨by rw [HE.out]; rfl, H6.out.below⟩
        | true =>
          go_wp2_with fail
          go_ret
          exact ⟨by rw [HE.out]; rfl, H6.out.below⟩
set_option maxHeartbeats 8000000 in
set_option maxRecDepth 100000 in
theorem known2 (l : List Ty) (v : Value) (w : World) (h : IsCf w l v) (t i r : ByteArray) (y : L3) (hk : kind3 y = 2) :
    Calls Tryz.prog 21 #[v, .agg #[.string t, .string i], .string r, agg3 y] w fun e x => e = .returned (.int .i64 (knownP l t i r y)) ∧ Below w.heap.size w x := by
  have HS := Lib.hid (fun x => Who.set_free (bs y.1) (bs y.2.1) (bs y.2.2) x)
  have HO := Lib.hid (fun x => Who.one_free (bs y.1) (bs y.2.1) (bs y.2.2) x)
  simp only [bs_list, Who.set_eq, Who.one_eq] at HS HO
  rw [show Who.kind y.1 y.2.1 y.2.2 = 2 from hk] at HS HO
  rw [show ((2 : Nat) == 2) = true from rfl] at HS
  rw [show ((2 : Nat) == 1) = false from rfl] at HO
  have HG := Lib.hid (fun x => Bond.goodO_free t i x)
  have HN := Lib.hid (fun x => Gl.name_free r x)
  have HR := Lib.hid (fun x (hx : Below w.heap.size w x) => hasRel_any l v x (h.below hx) t r)
  have HT := Lib.hid (fun x (hx : Below w.heap.size w x) => hasType_any l v x (h.below hx) (bs y.1))
  have HU := Lib.hid (fun x (hx : Below w.heap.size w x) => hasRel_any l v x (h.below hx) (bs y.1) (bs y.2.2))
  have HE := Lib.hid (show knownP l t i r y = knownV ((Gly.nameB t.data.toList && Gly.idB i.data.toList) && Gly.nameB r.data.toList) 2 (relC l t r).isSome (hasT l (bs y.1)) (relC l (bs y.1) (bs y.2.2)).isSome from by rw [knownP, hk])
  clear hk
  generalize (Gly.nameB t.data.toList && Gly.idB i.data.toList) = go at *
  generalize Gly.nameB r.data.toList = nr at *
  generalize (relC l t r).isSome = s at *
  generalize hasT l (bs y.1) = ht at *
  generalize (relC l (bs y.1) (bs y.2.2)).isSome = u at *
  obtain ⟨ao, cap, us, rfl, -⟩ := h
  have H0 := Lib.hid ((((On.start w).new #[.slice ao l.length cap] tCf rfl).new #[.string t, .string i] 63 (n := w.heap.size + 1) (by simp)).new #[.string (bs y.1), .string (bs y.2.1), .string (bs y.2.2)] 55 (n := w.heap.size + 1 + 1) (by simp))
  obtain ⟨s0, s1, s2⟩ := box3 H0.out.at0
  obtain ⟨o0, o1⟩ := box2 H0.out.at1
  have b0 := box1 H0.out.at2
  go_enter Tryz.func21, Tryz.ntmps21
  go_wp2_with fail
  refine (HS.out _).mono ?_
  rintro e x1 ⟨rfl, hx⟩
  have H1 := Lib.hid (H0.out.step hx)
  clear hx
  clear s0 s1 s2 o0 o1 b0
  obtain ⟨s0, s1, s2⟩ := box3 H1.out.at0
  obtain ⟨o0, o1⟩ := box2 H1.out.at1
  have b0 := box1 H1.out.at2
  go_wp2_with fail
  refine (HG.out _).mono ?_
  rintro e x2 ⟨rfl, hx⟩
  have H2 := Lib.hid (H1.out.step hx)
  clear hx
  clear s0 s1 s2 o0 o1 b0
  cases go with
  | false =>
    go_wp2_with fail
    go_ret
    exact ⟨by rw [HE.out]; rfl, H2.out.below⟩
  | true =>
    obtain ⟨s0, s1, s2⟩ := box3 H2.out.at0
    obtain ⟨o0, o1⟩ := box2 H2.out.at1
    have b0 := box1 H2.out.at2
    go_wp2_with fail
    refine (HN.out _).mono ?_
    rintro e x3 ⟨rfl, hx⟩
    have H3 := Lib.hid (H2.out.step hx)
    clear hx
    clear s0 s1 s2 o0 o1 b0
    cases nr with
    | false =>
      go_wp2_with fail
      go_ret
      exact ⟨by rw [HE.out]; rfl, H3.out.below⟩
    | true =>
      obtain ⟨s0, s1, s2⟩ := box3 H3.out.at0
      obtain ⟨o0, o1⟩ := box2 H3.out.at1
      have b0 := box1 H3.out.at2
      go_wp2_with fail
      refine (HR.out _ H3.out.below).mono ?_
      rintro e x4 ⟨rfl, hx⟩
      have H4 := Lib.hid (H3.out.step hx)
      clear hx
      clear s0 s1 s2 o0 o1 b0
      cases s with
      | false =>
        go_wp2_with fail
        go_ret
        exact ⟨by rw [HE.out]; rfl, H4.out.below⟩
      | true =>
        obtain ⟨s0, s1, s2⟩ := box3 H4.out.at0
        obtain ⟨o0, o1⟩ := box2 H4.out.at1
        have b0 := box1 H4.out.at2
        go_wp2_with fail
        refine (HT.out _ H4.out.below).mono ?_
        rintro e x5 ⟨rfl, hx⟩
        have H5 := Lib.hid (H4.out.step hx)
        clear hx
        clear s0 s1 s2 o0 o1 b0
        cases ht with
        | false =>
          go_wp2_with fail
          go_ret
          exact ⟨by rw [HE.out]; rfl, H5.out.below⟩
        | true =>
          obtain ⟨s0, s1, s2⟩ := box3 H5.out.at0
          obtain ⟨o0, o1⟩ := box2 H5.out.at1
          have b0 := box1 H5.out.at2
          go_wp2_with fail
          refine (HU.out _ H5.out.below).mono ?_
          rintro e x6 ⟨rfl, hx⟩
          have H6 := Lib.hid (H5.out.step hx)
          clear hx
          clear s0 s1 s2 o0 o1 b0
          cases u with
          | false =>
            go_wp2_with fail
            go_ret
            exact ⟨by rw [HE.out]; rfl, H6.out.below⟩
          | true =>
            go_wp2_with fail
            go_ret
            exact ⟨by rw [HE.out]; rfl, H6.out.below⟩
set_option maxHeartbeats 8000000 in
set_option maxRecDepth 100000 in
theorem known3 (l : List Ty) (v : Value) (w : World) (h : IsCf w l v) (t i r : ByteArray) (y : L3) (hk : kind3 y = 3) :
    Calls Tryz.prog 21 #[v, .agg #[.string t, .string i], .string r, agg3 y] w fun e x => e = .returned (.int .i64 (knownP l t i r y)) ∧ Below w.heap.size w x := by
  have HS := Lib.hid (fun x => Who.set_free (bs y.1) (bs y.2.1) (bs y.2.2) x)
  have HO := Lib.hid (fun x => Who.one_free (bs y.1) (bs y.2.1) (bs y.2.2) x)
  simp only [bs_list, Who.set_eq, Who.one_eq] at HS HO
  rw [show Who.kind y.1 y.2.1 y.2.2 = 3 from hk] at HS HO
  rw [show ((3 : Nat) == 2) = false from rfl] at HS
  rw [show ((3 : Nat) == 1) = false from rfl] at HO
  have HG := Lib.hid (fun x => Bond.goodO_free t i x)
  have HN := Lib.hid (fun x => Gl.name_free r x)
  have HR := Lib.hid (fun x (hx : Below w.heap.size w x) => hasRel_any l v x (h.below hx) t r)
  have HT := Lib.hid (fun x (hx : Below w.heap.size w x) => hasType_any l v x (h.below hx) (bs y.1))
  have HU := Lib.hid (fun x (hx : Below w.heap.size w x) => hasRel_any l v x (h.below hx) (bs y.1) (bs y.2.2))
  have HE := Lib.hid (show knownP l t i r y = knownV ((Gly.nameB t.data.toList && Gly.idB i.data.toList) && Gly.nameB r.data.toList) 3 (relC l t r).isSome (hasT l (bs y.1)) (relC l (bs y.1) (bs y.2.2)).isSome from by rw [knownP, hk])
  clear hk
  generalize (Gly.nameB t.data.toList && Gly.idB i.data.toList) = go at *
  generalize Gly.nameB r.data.toList = nr at *
  generalize (relC l t r).isSome = s at *
  generalize hasT l (bs y.1) = ht at *
  generalize (relC l (bs y.1) (bs y.2.2)).isSome = u at *
  obtain ⟨ao, cap, us, rfl, -⟩ := h
  have H0 := Lib.hid ((((On.start w).new #[.slice ao l.length cap] tCf rfl).new #[.string t, .string i] 63 (n := w.heap.size + 1) (by simp)).new #[.string (bs y.1), .string (bs y.2.1), .string (bs y.2.2)] 55 (n := w.heap.size + 1 + 1) (by simp))
  obtain ⟨s0, s1, s2⟩ := box3 H0.out.at0
  obtain ⟨o0, o1⟩ := box2 H0.out.at1
  have b0 := box1 H0.out.at2
  go_enter Tryz.func21, Tryz.ntmps21
  go_wp2_with fail
  refine (HS.out _).mono ?_
  rintro e x1 ⟨rfl, hx⟩
  have H1 := Lib.hid (H0.out.step hx)
  clear hx
  clear s0 s1 s2 o0 o1 b0
  obtain ⟨s0, s1, s2⟩ := box3 H1.out.at0
  obtain ⟨o0, o1⟩ := box2 H1.out.at1
  have b0 := box1 H1.out.at2
  go_wp2_with fail
  refine (HG.out _).mono ?_
  rintro e x2 ⟨rfl, hx⟩
  have H2 := Lib.hid (H1.out.step hx)
  clear hx
  clear s0 s1 s2 o0 o1 b0
  cases go with
  | false =>
    go_wp2_with fail
    go_ret
    exact ⟨by rw [HE.out]; rfl, H2.out.below⟩
  | true =>
    obtain ⟨s0, s1, s2⟩ := box3 H2.out.at0
    obtain ⟨o0, o1⟩ := box2 H2.out.at1
    have b0 := box1 H2.out.at2
    go_wp2_with fail
    refine (HN.out _).mono ?_
    rintro e x3 ⟨rfl, hx⟩
    have H3 := Lib.hid (H2.out.step hx)
    clear hx
    clear s0 s1 s2 o0 o1 b0
    cases nr with
    | false =>
      go_wp2_with fail
      go_ret
      exact ⟨by rw [HE.out]; rfl, H3.out.below⟩
    | true =>
      obtain ⟨s0, s1, s2⟩ := box3 H3.out.at0
      obtain ⟨o0, o1⟩ := box2 H3.out.at1
      have b0 := box1 H3.out.at2
      go_wp2_with fail
      refine (HO.out _).mono ?_
      rintro e x4 ⟨rfl, hx⟩
      have H4 := Lib.hid (H3.out.step hx)
      clear hx
      clear s0 s1 s2 o0 o1 b0
      go_wp2_with fail
      go_ret
      exact ⟨by rw [HE.out]; rfl, H4.out.below⟩
theorem known_any (l : List Ty) (v : Value) (w : World) (h : IsCf w l v) (t i r : ByteArray) (y : L3) :
    Calls Tryz.prog 21 #[v, .agg #[.string t, .string i], .string r, agg3 y] w fun e x => e = .returned (.int .i64 (knownP l t i r y)) ∧ Below w.heap.size w x := by
  have hk := Who.kind_le y.1 y.2.1 y.2.2
  have : kind3 y = 0 ∨ kind3 y = 1 ∨ kind3 y = 2 ∨ kind3 y = 3 := by unfold kind3; omega
  rcases this with h0 | h0 | h0 | h0
  · exact known0 l v w h t i r y h0
  · exact known1 l v w h t i r y h0
  · exact known2 l v w h t i r y h0
  · exact known3 l v w h t i r y h0

/-! ### the document's -/
set_option maxHeartbeats 4000000 in
set_option maxRecDepth 100000 in
theorem rhas_any (l : List Ty) (v : Value) (w : World) (h : IsCf w l v) (a : ByteArray) :
    Calls Tryz.prog 43 #[v, .string a] w fun e x => e = .returned (.bool (hasT l a)) ∧ Below w.heap.size w x := by
  obtain ⟨ao, cap, us, rfl, hl⟩ := h
  have hbig : l.length ≤ 9223372036854775807 := hl.big
  have HL := Lib.hid hl
  have H0 := Lib.hid ((On.start w).new #[.slice ao l.length cap] tCf rfl)
  clear hl
  go_enter Tryz.func43, Tryz.ntmps43
  go_upto_region 1 with fail
  generalize w.alloc (.cells #[.slice ao l.length cap] tCf) = X at *
  have b0 := box1 H0.out.at0
  go_wp2_with fail
  go_loopw [9] (fun i wr => ∃ j : Nat, j ≤ l.length ∧ i = .int .i64 j ∧ Hid ((l.take j).any (fun t => same t.name a) = false) ∧ wr = X) (fun i _ => l.length - (intOf i).toNat)
  case atStart => exact ⟨0, by omega, rfl, Lib.hid rfl, rfl⟩
  case round =>
    obtain ⟨j, hj, rfl, hall, rfl⟩ := hrel
    by_cases hlt : j < l.length
    · obtain ⟨g, q, ro, rc, vs, hix, hg, c0', c1', hla⟩ := ty_at HL.out cap hlt
      have c0 := (H0.out.below.cell (p := ⟨g, q, none⟩) hg).trans c0'
      have hat := any_take (p := fun t : Ty => same t.name a) hlt
      rw [hall.out, Bool.false_or] at hat
      cases hs : same l[j].name a with
      | true =>
        have e1 : (l[j].name.toList == a.toList) = true := hs
        have HE := Lib.hid (show hasT l a = true from List.any_eq_true.2 ⟨_, List.getElem_mem hlt, hs⟩)
        clear hg c0' c1' hla hat hall hs
        go_wp2_with fail
        go_ret
        exact ⟨by rw [HE.out]; rfl, H0.out.below⟩
      | false =>
        have e1 : (l[j].name.toList == a.toList) = false := hs
        rw [hs] at hat
        have HE := Lib.hid hat
        clear hg c0' c1' hla hat hall hs
        go_wp2_with fail
        go_roundw
        case rel => exact ⟨j + 1, by omega, by go_num, HE, trivial⟩
        case measure => simp [intOf]; omega
    · have hj' : j = l.length := by omega
      subst hj'
      have ha := hall.out
      rw [List.take_length] at ha
      have HE := Lib.hid (show hasT l a = false from ha)
      clear ha hall
      go_wp2_with fail
      go_ret
      exact ⟨by rw [HE.out]; rfl, H0.out.below⟩
set_option maxHeartbeats 8000000 in
set_option maxRecDepth 100000 in
theorem rknown0 (l : List Ty) (v : Value) (w : World) (h : IsCf w l v) (t i r : ByteArray) (y : L3) (hk : kind3 y = 0) (ht : t.size ≤ 4000000) (hi : i.size ≤ 4000000) (hr : r.size ≤ 4000000) (hy : y.1.length ≤ 4000000 ∧ y.2.1.length ≤ 4000000 ∧ y.2.2.length ≤ 4000000) :
    Calls Tryz.prog 22 #[v, .agg #[.string t, .string i], .string r, agg3 y] w fun e x => e = .returned (.int .i64 (knownP l t i r y)) ∧ Below w.heap.size w x := by
  have HS := Lib.hid (fun x => Who.kindR_any (bs y.1) (bs y.2.1) (bs y.2.2) x (by rw [bs_size]; omega) (by rw [bs_size]; omega) (by rw [bs_size]; omega))
  simp only [bs_list] at HS
  rw [show Who.kind y.1 y.2.1 y.2.2 = 0 from hk] at HS
  rw [show (((0 : Nat)) : Int) = 0 from rfl] at HS
  have HG := Lib.hid (fun x => Who.goodR_any t i x ht hi)
  have HN := Lib.hid (fun x => Ref.name_any r x hr)
  have HR := Lib.hid (fun x (hx : Below w.heap.size w x) => Lt.rrel_any l v x (h.below hx) t r)
  have HT := Lib.hid (fun x (hx : Below w.heap.size w x) => rhas_any l v x (h.below hx) (bs y.1))
  have HU := Lib.hid (fun x (hx : Below w.heap.size w x) => Lt.rrel_any l v x (h.below hx) (bs y.1) (bs y.2.2))
  have HE := Lib.hid (show knownP l t i r y = knownV ((Gly.nameB t.data.toList && Gly.idB i.data.toList) && Gly.nameB r.data.toList) 0 (relC l t r).isSome (hasT l (bs y.1)) (relC l (bs y.1) (bs y.2.2)).isSome from by rw [knownP, hk])
  clear hk ht hi hr hy
  generalize (Gly.nameB t.data.toList && Gly.idB i.data.toList) = go at *
  generalize Gly.nameB r.data.toList = nr at *
  generalize (relC l t r).isSome = s at *
  generalize (relC l t r).getD zR = r1 at *
  generalize hasT l (bs y.1) = ht at *
  generalize (relC l (bs y.1) (bs y.2.2)).isSome = u at *
  generalize (relC l (bs y.1) (bs y.2.2)).getD zR = r2 at *
  obtain ⟨ao, cap, us, rfl, -⟩ := h
  have H0 := Lib.hid ((((On.start w).new #[.slice ao l.length cap] tCf rfl).new #[.string t, .string i] 63 (n := w.heap.size + 1) (by simp)).new #[.string (bs y.1), .string (bs y.2.1), .string (bs y.2.2)] 55 (n := w.heap.size + 1 + 1) (by simp))
  obtain ⟨s0, s1, s2⟩ := box3 H0.out.at0
  obtain ⟨o0, o1⟩ := box2 H0.out.at1
  have b0 := box1 H0.out.at2
  go_enter Tryz.func22, Tryz.ntmps22
  go_wp2_with fail
  refine (HS.out _).mono ?_
  rintro e x1 ⟨rfl, hx⟩
  have H1 := Lib.hid (H0.out.step hx)
  clear hx
  clear s0 s1 s2 o0 o1 b0
  obtain ⟨s0, s1, s2⟩ := box3 H1.out.at0
  obtain ⟨o0, o1⟩ := box2 H1.out.at1
  have b0 := box1 H1.out.at2
  go_wp2_with fail
  refine (HG.out _).mono ?_
  rintro e x2 ⟨rfl, hx⟩
  have H2 := Lib.hid (H1.out.step hx)
  clear hx
  clear s0 s1 s2 o0 o1 b0
  cases go with
  | false =>
    go_wp2_with fail
    go_ret
    exact ⟨by rw [HE.out]; rfl, H2.out.below⟩
  | true =>
    obtain ⟨s0, s1, s2⟩ := box3 H2.out.at0
    obtain ⟨o0, o1⟩ := box2 H2.out.at1
    have b0 := box1 H2.out.at2
    go_wp2_with fail
    refine (HN.out _).mono ?_
    rintro e x3 ⟨rfl, rfl⟩
    cases nr with
    | false =>
      go_wp2_with fail
      go_ret
      exact ⟨by rw [HE.out]; rfl, H2.out.below⟩
    | true =>
      go_wp2_with fail
      go_ret
      exact ⟨by rw [HE.out]; rfl, H2.out.below⟩
set_option maxHeartbeats 8000000 in
set_option maxRecDepth 100000 in
theorem rknown1 (l : List Ty) (v : Value) (w : World) (h : IsCf w l v) (t i r : ByteArray) (y : L3) (hk : kind3 y = 1) (ht : t.size ≤ 4000000) (hi : i.size ≤ 4000000) (hr : r.size ≤ 4000000) (hy : y.1.length ≤ 4000000 ∧ y.2.1.length ≤ 4000000 ∧ y.2.2.length ≤ 4000000) :
    Calls Tryz.prog 22 #[v, .agg #[.string t, .string i], .string r, agg3 y] w fun e x => e = .returned (.int .i64 (knownP l t i r y)) ∧ Below w.heap.size w x := by
  have HS := Lib.hid (fun x => Who.kindR_any (bs y.1) (bs y.2.1) (bs y.2.2) x (by rw [bs_size]; omega) (by rw [bs_size]; omega) (by rw [bs_size]; omega))
  simp only [bs_list] at HS
  rw [show Who.kind y.1 y.2.1 y.2.2 = 1 from hk] at HS
  rw [show (((1 : Nat)) : Int) = 1 from rfl] at HS
  have HG := Lib.hid (fun x => Who.goodR_any t i x ht hi)
  have HN := Lib.hid (fun x => Ref.name_any r x hr)
  have HR := Lib.hid (fun x (hx : Below w.heap.size w x) => Lt.rrel_any l v x (h.below hx) t r)
  have HT := Lib.hid (fun x (hx : Below w.heap.size w x) => rhas_any l v x (h.below hx) (bs y.1))
  have HU := Lib.hid (fun x (hx : Below w.heap.size w x) => Lt.rrel_any l v x (h.below hx) (bs y.1) (bs y.2.2))
  have HE := Lib.hid (show knownP l t i r y = knownV ((Gly.nameB t.data.toList && Gly.idB i.data.toList) && Gly.nameB r.data.toList) 1 (relC l t r).isSome (hasT l (bs y.1)) (relC l (bs y.1) (bs y.2.2)).isSome from by rw [knownP, hk])
  clear hk ht hi hr hy
  generalize (Gly.nameB t.data.toList && Gly.idB i.data.toList) = go at *
  generalize Gly.nameB r.data.toList = nr at *
  generalize (relC l t r).isSome = s at *
  generalize (relC l t r).getD zR = r1 at *
  generalize hasT l (bs y.1) = ht at *
  generalize (relC l (bs y.1) (bs y.2.2)).isSome = u at *
  generalize (relC l (bs y.1) (bs y.2.2)).getD zR = r2 at *
  obtain ⟨ao, cap, us, rfl, -⟩ := h
  have H0 := Lib.hid ((((On.start w).new #[.slice ao l.length cap] tCf rfl).new #[.string t, .string i] 63 (n := w.heap.size + 1) (by simp)).new #[.string (bs y.1), .string (bs y.2.1), .string (bs y.2.2)] 55 (n := w.heap.size + 1 + 1) (by simp))
  obtain ⟨s0, s1, s2⟩ := box3 H0.out.at0
  obtain ⟨o0, o1⟩ := box2 H0.out.at1
  have b0 := box1 H0.out.at2
  go_enter Tryz.func22, Tryz.ntmps22
  go_wp2_with fail
  refine (HS.out _).mono ?_
  rintro e x1 ⟨rfl, hx⟩
  have H1 := Lib.hid (H0.out.step hx)
  clear hx
  clear s0 s1 s2 o0 o1 b0
  obtain ⟨s0, s1, s2⟩ := box3 H1.out.at0
  obtain ⟨o0, o1⟩ := box2 H1.out.at1
  have b0 := box1 H1.out.at2
  go_wp2_with fail
  refine (HG.out _).mono ?_
  rintro e x2 ⟨rfl, hx⟩
  have H2 := Lib.hid (H1.out.step hx)
  clear hx
  clear s0 s1 s2 o0 o1 b0
  cases go with
  | false =>
    go_wp2_with fail
    go_ret
    exact ⟨by rw [HE.out]; rfl, H2.out.below⟩
  | true =>
    obtain ⟨s0, s1, s2⟩ := box3 H2.out.at0
    obtain ⟨o0, o1⟩ := box2 H2.out.at1
    have b0 := box1 H2.out.at2
    go_wp2_with fail
    refine (HN.out _).mono ?_
    rintro e x3 ⟨rfl, rfl⟩
    cases nr with
    | false =>
      go_wp2_with fail
      go_ret
      exact ⟨by rw [HE.out]; rfl, H2.out.below⟩
    | true =>
      go_wp2_with fail
      refine (HR.out _ H2.out.below).mono ?_
      rintro e x3 ⟨z, rfl, hz, hx⟩
      obtain ⟨q3, qc3, qn3, qm3, qs, rfl, -, -⟩ := hz
      have H3 := Lib.hid (((H2.out.step hx).new #[.string r1.name, .slice q3 r1.allow.length qc3, .int .i64 r1.expr.kind, .string r1.expr.ta, .string r1.expr.tb, .slice qn3 r1.expr.kids.length qm3] tRl rfl).tail)
      clear hx
      clear s0 s1 s2 o0 o1 b0
      obtain ⟨s0, s1, s2⟩ := box3 H3.out.at0
      obtain ⟨o0, o1⟩ := box2 H3.out.at1
      have b0 := box1 H3.out.at2
      go_wp2_with fail
      refine (HU.out _ H3.out.below).mono ?_
      rintro e x4 ⟨z, rfl, hz, hx⟩
      obtain ⟨q4, qc4, qn4, qm4, qs, rfl, -, -⟩ := hz
      have H4 := Lib.hid (((H3.out.step hx).new #[.string r2.name, .slice q4 r2.allow.length qc4, .int .i64 r2.expr.kind, .string r2.expr.ta, .string r2.expr.tb, .slice qn4 r2.expr.kids.length qm4] tRl rfl).tail)
      clear hx
      clear s0 s1 s2 o0 o1 b0
      cases s with
      | false =>
        go_wp2_with fail
        go_ret
        exact ⟨by rw [HE.out]; rfl, H4.out.below⟩
      | true =>
        obtain ⟨s0, s1, s2⟩ := box3 H4.out.at0
        obtain ⟨o0, o1⟩ := box2 H4.out.at1
        have b0 := box1 H4.out.at2
        go_wp2_with fail
        refine (HT.out _ H4.out.below).mono ?_
        rintro e x5 ⟨rfl, hx⟩
        have H5 := Lib.hid (H4.out.step hx)
        clear hx
        clear s0 s1 s2 o0 o1 b0
        cases ht with
        | false =>
          go_wp2_with fail
          go_ret
          exact ⟨by rw [HE.out]; rfl, H5.out.below⟩
        | true =>
          go_wp2_with fail
          go_ret
          exact ⟨by rw [HE.out]; rfl, H5.out.below⟩
set_option maxHeartbeats 8000000 in
set_option maxRecDepth 100000 in
theorem rknown2 (l : List Ty) (v : Value) (w : World) (h : IsCf w l v) (t i r : ByteArray) (y : L3) (hk : kind3 y = 2) (ht : t.size ≤ 4000000) (hi : i.size ≤ 4000000) (hr : r.size ≤ 4000000) (hy : y.1.length ≤ 4000000 ∧ y.2.1.length ≤ 4000000 ∧ y.2.2.length ≤ 4000000) :
    Calls Tryz.prog 22 #[v, .agg #[.string t, .string i], .string r, agg3 y] w fun e x => e = .returned (.int .i64 (knownP l t i r y)) ∧ Below w.heap.size w x := by
  have HS := Lib.hid (fun x => Who.kindR_any (bs y.1) (bs y.2.1) (bs y.2.2) x (by rw [bs_size]; omega) (by rw [bs_size]; omega) (by rw [bs_size]; omega))
  simp only [bs_list] at HS
  rw [show Who.kind y.1 y.2.1 y.2.2 = 2 from hk] at HS
  rw [show (((2 : Nat)) : Int) = 2 from rfl] at HS
  have HG := Lib.hid (fun x => Who.goodR_any t i x ht hi)
  have HN := Lib.hid (fun x => Ref.name_any r x hr)
  have HR := Lib.hid (fun x (hx : Below w.heap.size w x) => Lt.rrel_any l v x (h.below hx) t r)
  have HT := Lib.hid (fun x (hx : Below w.heap.size w x) => rhas_any l v x (h.below hx) (bs y.1))
  have HU := Lib.hid (fun x (hx : Below w.heap.size w x) => Lt.rrel_any l v x (h.below hx) (bs y.1) (bs y.2.2))
  have HE := Lib.hid (show knownP l t i r y = knownV ((Gly.nameB t.data.toList && Gly.idB i.data.toList) && Gly.nameB r.data.toList) 2 (relC l t r).isSome (hasT l (bs y.1)) (relC l (bs y.1) (bs y.2.2)).isSome from by rw [knownP, hk])
  clear hk ht hi hr hy
  generalize (Gly.nameB t.data.toList && Gly.idB i.data.toList) = go at *
  generalize Gly.nameB r.data.toList = nr at *
  generalize (relC l t r).isSome = s at *
  generalize (relC l t r).getD zR = r1 at *
  generalize hasT l (bs y.1) = ht at *
  generalize (relC l (bs y.1) (bs y.2.2)).isSome = u at *
  generalize (relC l (bs y.1) (bs y.2.2)).getD zR = r2 at *
  obtain ⟨ao, cap, us, rfl, -⟩ := h
  have H0 := Lib.hid ((((On.start w).new #[.slice ao l.length cap] tCf rfl).new #[.string t, .string i] 63 (n := w.heap.size + 1) (by simp)).new #[.string (bs y.1), .string (bs y.2.1), .string (bs y.2.2)] 55 (n := w.heap.size + 1 + 1) (by simp))
  obtain ⟨s0, s1, s2⟩ := box3 H0.out.at0
  obtain ⟨o0, o1⟩ := box2 H0.out.at1
  have b0 := box1 H0.out.at2
  go_enter Tryz.func22, Tryz.ntmps22
  go_wp2_with fail
  refine (HS.out _).mono ?_
  rintro e x1 ⟨rfl, hx⟩
  have H1 := Lib.hid (H0.out.step hx)
  clear hx
  clear s0 s1 s2 o0 o1 b0
  obtain ⟨s0, s1, s2⟩ := box3 H1.out.at0
  obtain ⟨o0, o1⟩ := box2 H1.out.at1
  have b0 := box1 H1.out.at2
  go_wp2_with fail
  refine (HG.out _).mono ?_
  rintro e x2 ⟨rfl, hx⟩
  have H2 := Lib.hid (H1.out.step hx)
  clear hx
  clear s0 s1 s2 o0 o1 b0
  cases go with
  | false =>
    go_wp2_with fail
    go_ret
    exact ⟨by rw [HE.out]; rfl, H2.out.below⟩
  | true =>
    obtain ⟨s0, s1, s2⟩ := box3 H2.out.at0
    obtain ⟨o0, o1⟩ := box2 H2.out.at1
    have b0 := box1 H2.out.at2
    go_wp2_with fail
    refine (HN.out _).mono ?_
    rintro e x3 ⟨rfl, rfl⟩
    cases nr with
    | false =>
      go_wp2_with fail
      go_ret
      exact ⟨by rw [HE.out]; rfl, H2.out.below⟩
    | true =>
      go_wp2_with fail
      refine (HR.out _ H2.out.below).mono ?_
      rintro e x3 ⟨z, rfl, hz, hx⟩
      obtain ⟨q3, qc3, qn3, qm3, qs, rfl, -, -⟩ := hz
      have H3 := Lib.hid (((H2.out.step hx).new #[.string r1.name, .slice q3 r1.allow.length qc3, .int .i64 r1.expr.kind, .string r1.expr.ta, .string r1.expr.tb, .slice qn3 r1.expr.kids.length qm3] tRl rfl).tail)
      clear hx
      clear s0 s1 s2 o0 o1 b0
      obtain ⟨s0, s1, s2⟩ := box3 H3.out.at0
      obtain ⟨o0, o1⟩ := box2 H3.out.at1
      have b0 := box1 H3.out.at2
      go_wp2_with fail
      refine (HU.out _ H3.out.below).mono ?_
      rintro e x4 ⟨z, rfl, hz, hx⟩
      obtain ⟨q4, qc4, qn4, qm4, qs, rfl, -, -⟩ := hz
      have H4 := Lib.hid (((H3.out.step hx).new #[.string r2.name, .slice q4 r2.allow.length qc4, .int .i64 r2.expr.kind, .string r2.expr.ta, .string r2.expr.tb, .slice qn4 r2.expr.kids.length qm4] tRl rfl).tail)
      clear hx
      clear s0 s1 s2 o0 o1 b0
      cases s with
      | false =>
        go_wp2_with fail
        go_ret
        exact ⟨by rw [HE.out]; rfl, H4.out.below⟩
      | true =>
        obtain ⟨s0, s1, s2⟩ := box3 H4.out.at0
        obtain ⟨o0, o1⟩ := box2 H4.out.at1
        have b0 := box1 H4.out.at2
        go_wp2_with fail
        refine (HT.out _ H4.out.below).mono ?_
        rintro e x5 ⟨rfl, hx⟩
        have H5 := Lib.hid (H4.out.step hx)
        clear hx
        clear s0 s1 s2 o0 o1 b0
        cases ht with
        | false =>
          go_wp2_with fail
          go_ret
          exact ⟨by rw [HE.out]; rfl, H5.out.below⟩
        | true =>
          cases u with
          | false =>
            go_wp2_with fail
            go_ret
            exact ⟨by rw [HE.out]; rfl, H5.out.below⟩
          | true =>
            go_wp2_with fail
            go_ret
            exact ⟨by rw [HE.out]; rfl, H5.out.below⟩
set_option maxHeartbeats 8000000 in
set_option maxRecDepth 100000 in
theorem rknown3 (l : List Ty) (v : Value) (w : World) (h : IsCf w l v) (t i r : ByteArray) (y : L3) (hk : kind3 y = 3) (ht : t.size ≤ 4000000) (hi : i.size ≤ 4000000) (hr : r.size ≤ 4000000) (hy : y.1.length ≤ 4000000 ∧ y.2.1.length ≤ 4000000 ∧ y.2.2.length ≤ 4000000) :
    Calls Tryz.prog 22 #[v, .agg #[.string t, .string i], .string r, agg3 y] w fun e x => e = .returned (.int .i64 (knownP l t i r y)) ∧ Below w.heap.size w x := by
  have HS := Lib.hid (fun x => Who.kindR_any (bs y.1) (bs y.2.1) (bs y.2.2) x (by rw [bs_size]; omega) (by rw [bs_size]; omega) (by rw [bs_size]; omega))
  simp only [bs_list] at HS
  rw [show Who.kind y.1 y.2.1 y.2.2 = 3 from hk] at HS
  rw [show (((3 : Nat)) : Int) = 3 from rfl] at HS
  have HG := Lib.hid (fun x => Who.goodR_any t i x ht hi)
  have HN := Lib.hid (fun x => Ref.name_any r x hr)
  have HR := Lib.hid (fun x (hx : Below w.heap.size w x) => Lt.rrel_any l v x (h.below hx) t r)
  have HT := Lib.hid (fun x (hx : Below w.heap.size w x) => rhas_any l v x (h.below hx) (bs y.1))
  have HU := Lib.hid (fun x (hx : Below w.heap.size w x) => Lt.rrel_any l v x (h.below hx) (bs y.1) (bs y.2.2))
  have HE := Lib.hid (show knownP l t i r y = knownV ((Gly.nameB t.data.toList && Gly.idB i.data.toList) && Gly.nameB r.data.toList) 3 (relC l t r).isSome (hasT l (bs y.1)) (relC l (bs y.1) (bs y.2.2)).isSome from by rw [knownP, hk])
  clear hk ht hi hr hy
  generalize (Gly.nameB t.data.toList && Gly.idB i.data.toList) = go at *
  generalize Gly.nameB r.data.toList = nr at *
  generalize (relC l t r).isSome = s at *
  generalize (relC l t r).getD zR = r1 at *
  generalize hasT l (bs y.1) = ht at *
  generalize (relC l (bs y.1) (bs y.2.2)).isSome = u at *
  generalize (relC l (bs y.1) (bs y.2.2)).getD zR = r2 at *
  obtain ⟨ao, cap, us, rfl, -⟩ := h
  have H0 := Lib.hid ((((On.start w).new #[.slice ao l.length cap] tCf rfl).new #[.string t, .string i] 63 (n := w.heap.size + 1) (by simp)).new #[.string (bs y.1), .string (bs y.2.1), .string (bs y.2.2)] 55 (n := w.heap.size + 1 + 1) (by simp))
  obtain ⟨s0, s1, s2⟩ := box3 H0.out.at0
  obtain ⟨o0, o1⟩ := box2 H0.out.at1
  have b0 := box1 H0.out.at2
  go_enter Tryz.func22, Tryz.ntmps22
  go_wp2_with fail
  refine (HS.out _).mono ?_
  rintro e x1 ⟨rfl, hx⟩
  have H1 := Lib.hid (H0.out.step hx)
  clear hx
  clear s0 s1 s2 o0 o1 b0
  obtain ⟨s0, s1, s2⟩ := box3 H1.out.at0
  obtain ⟨o0, o1⟩ := box2 H1.out.at1
  have b0 := box1 H1.out.at2
  go_wp2_with fail
  refine (HG.out _).mono ?_
  rintro e x2 ⟨rfl, hx⟩
  have H2 := Lib.hid (H1.out.step hx)
  clear hx
  clear s0 s1 s2 o0 o1 b0
  cases go with
  | false =>
    go_wp2_with fail
    go_ret
    exact ⟨by rw [HE.out]; rfl, H2.out.below⟩
  | true =>
    obtain ⟨s0, s1, s2⟩ := box3 H2.out.at0
    obtain ⟨o0, o1⟩ := box2 H2.out.at1
    have b0 := box1 H2.out.at2
    go_wp2_with fail
    refine (HN.out _).mono ?_
    rintro e x3 ⟨rfl, rfl⟩
    cases nr with
    | false =>
      go_wp2_with fail
      go_ret
      exact ⟨by rw [HE.out]; rfl, H2.out.below⟩
    | true =>
      go_wp2_with fail
      go_ret
      exact ⟨by rw [HE.out]; rfl, H2.out.below⟩
theorem rknown_any (l : List Ty) (v : Value) (w : World) (h : IsCf w l v) (t i r : ByteArray) (y : L3) (ht : t.size ≤ 4000000) (hi : i.size ≤ 4000000) (hr : r.size ≤ 4000000) (hy : y.1.length ≤ 4000000 ∧ y.2.1.length ≤ 4000000 ∧ y.2.2.length ≤ 4000000) :
    Calls Tryz.prog 22 #[v, .agg #[.string t, .string i], .string r, agg3 y] w fun e x => e = .returned (.int .i64 (knownP l t i r y)) ∧ Below w.heap.size w x := by
  have hk := Who.kind_le y.1 y.2.1 y.2.2
  have : kind3 y = 0 ∨ kind3 y = 1 ∨ kind3 y = 2 ∨ kind3 y = 3 := by unfold kind3; omega
  rcases this with h0 | h0 | h0 | h0
  · exact rknown0 l v w h t i r y h0 ht hi hr hy
  · exact rknown1 l v w h t i r y h0 ht hi hr hy
  · exact rknown2 l v w h t i r y h0 ht hi hr hy
  · exact rknown3 l v w h t i r y h0 ht hi hr hy
end Lo
end Go.Proofs.YtopncohhagebbaaGreatDoor

namespace Go.Proofs.YtopncohhagebbaaGreatDoor
open Go.RowKit
namespace Lo
open Tr (Nd IsNode node4 none0)
open Gr (Al Rl Ty IsAl IsRl IsTy IsCf Lies ty_at al_at alV relV tyV tAl tRl tTy tCf box1 box2 box6)
open Cn (box3 ShortC)
open Lt (same relC relT zR two any_take few9 few9_any few9_parts CheckOut)
open Bond (L3 kind3 goodB tupV)
open Who (bs bs_list bs_self bs_size)

set_option maxHeartbeats 8000000 in
set_option maxRecDepth 100000 in
theorem rfit_any (l : List Ty) (v : Value) (w : World) (h : IsCf w l v) (p : L3 × L3) (hp : Fits 4000000 p) :
    Calls Tryz.prog 17 #[v, agg6 p] w fun e x => e = .returned (.int .i64 (fitP l p)) ∧ Below w.heap.size w x := by
  obtain ⟨⟨u0, u1, u2⟩, u3, u4, u5⟩ := hp
  have HG := Lib.hid (fun x => Bond.goodR_any (bs p.1.1) (bs p.1.2.1) (bs p.1.2.2) (bs p.2.1) (bs p.2.2.1) (bs p.2.2.2) x (by rw [bs_size]; omega) (by rw [bs_size]; omega) (by rw [bs_size]; omega) (by rw [bs_size]; omega) (by rw [bs_size]; omega) (by rw [bs_size]; omega))
  simp only [bs_list, tupV] at HG
  rw [show goodB (p.1.1, p.1.2.1, p.1.2.2) (p.2.1, p.2.2.1, p.2.2.2) = goodB p.1 p.2 from rfl] at HG
  have HK := Lib.hid (fun x => Who.kindR_any (bs p.2.1) (bs p.2.2.1) (bs p.2.2.2) x (by rw [bs_size]; omega) (by rw [bs_size]; omega) (by rw [bs_size]; omega))
  simp only [bs_list] at HK
  rw [show Who.kind p.2.1 p.2.2.1 p.2.2.2 = kind3 p.2 from rfl] at HK
  have HR := Lib.hid (fun x (hx : Below w.heap.size w x) => Lt.rrel_any l v x (h.below hx) (bs p.1.1) (bs p.1.2.2))
  have HT := Lib.hid (fun x (hx : Below w.heap.size w x) => rhas_any l v x (h.below hx) (bs p.2.1))
  have HE := Lib.hid (show fitP l p = fitV (goodB p.1 p.2) (relC l (bs p.1.1) (bs p.1.2.2)).isSome (hasT l (bs p.2.1)) (((relC l (bs p.1.1) (bs p.1.2.2)).getD zR).allow.any (okA p.2)) from rfl)
  obtain ⟨ao, cap, us, rfl, -⟩ := h
  have H0 := Lib.hid (((On.start w).new #[.slice ao l.length cap] tCf rfl).new #[.string (bs p.1.1), .string (bs p.1.2.1), .string (bs p.1.2.2), .string (bs p.2.1), .string (bs p.2.2.1), .string (bs p.2.2.2)] 57 (n := w.heap.size + 1) (by simp))
  clear u0 u1 u2 u3 u4 u5
  generalize goodB p.1 p.2 = gd at *
  generalize (relC l (bs p.1.1) (bs p.1.2.2)).isSome = so at *
  generalize (relC l (bs p.1.1) (bs p.1.2.2)).getD zR = r at *
  generalize hasT l (bs p.2.1) = ht at *
  obtain ⟨c0, c1, c2, c3, c4, c5⟩ := box6 H0.out.at0
  go_enter Tryz.func17, Tryz.ntmps17
  go_wp2_with fail
  refine (HG.out _).mono ?_
  rintro e x1 ⟨rfl, hx⟩
  have H1 := Lib.hid (H0.out.step hx)
  clear hx H0 HG c0 c1 c2 c3 c4 c5
  cases gd with
  | false =>
    go_wp2_with fail
    go_ret
    exact ⟨by rw [HE.out]; rfl, H1.out.below⟩
  | true =>
    obtain ⟨c0, c1, c2, c3, c4, c5⟩ := box6 H1.out.at0
    have b0 := box1 H1.out.at1
    go_wp2_with fail
    refine (HR.out _ H1.out.below).mono ?_
    rintro e x2 ⟨u, rfl, hu, hx⟩
    obtain ⟨q0, qc, qn, qm, qs, rfl, hq1, hq2⟩ := hu
    have H2 := Lib.hid ((H1.out.step hx).new #[.string r.name, .slice q0 r.allow.length qc, .int .i64 r.expr.kind, .string r.expr.ta, .string r.expr.tb, .slice qn r.expr.kids.length qm] tRl rfl)
    have al := Tr.fresh_one x2 (.cells #[.string r.name, .slice q0 r.allow.length qc, .int .i64 r.expr.kind, .string r.expr.ta, .string r.expr.tb, .slice qn r.expr.kids.length qm] tRl)
    have HL := Lib.hid (hq1.on al fun _ _ h => h)
    clear hx hq1 hq2 al c0 c1 c2 c3 c4 c5 b0 H1 HR
    cases so with
    | false =>
      go_wp2_with fail
      go_ret
      exact ⟨by rw [HE.out]; rfl, H2.out.below⟩
    | true =>
      obtain ⟨-, -, -, c3, c4, c5⟩ := box6 H2.out.at1
      have b0 := box1 H2.out.at2
      go_wp2_with fail
      generalize x2.alloc (.cells #[.string r.name, .slice q0 r.allow.length qc, .int .i64 r.expr.kind, .string r.expr.ta, .string r.expr.tb, .slice qn r.expr.kids.length qm] tRl) = X at *
      generalize x2.heap.size = R2 at *
      refine (HT.out _ H2.out.below).mono ?_
      rintro e x3 ⟨rfl, hx⟩
      have H3 := Lib.hid (H2.out.step hx)
      have HL3 := Lib.hid (HL.out.on hx fun _ _ h => h)
      clear hx c3 c4 c5 b0 H2 HT HL
      cases ht with
      | false =>
        go_wp2_with fail
        go_ret
        exact ⟨by rw [HE.out]; rfl, H3.out.below⟩
      | true =>
        obtain ⟨-, -, -, c3, c4, c5⟩ := box6 H3.out.at1
        go_wp2_with fail
        refine (HK.out _).mono ?_
        rintro e x4 ⟨rfl, hx⟩
        have H4 := Lib.hid (H3.out.step hx)
        have HL4 := Lib.hid (HL3.out.on hx fun _ _ h => h)
        have hbig : r.allow.length ≤ 9223372036854775807 := HL3.out.big
        have HO := Lib.hid (show ∀ a : Al, okA p.2 a = (same a.ty (bs p.2.1) && (same a.rel (bs p.2.2.2) && (a.wild == decide (kind3 p.2 = 3)))) from fun _ => rfl)
        have e3 : (((kind3 p.2 : Nat) : Int) == 3) = decide (kind3 p.2 = 3) := by
          by_cases h : kind3 p.2 = 3
          · rw [h]; rfl
          · rw [decide_eq_false h]
            simpa using (by omega : ¬ ((kind3 p.2 : Nat) : Int) = 3)
        generalize decide (kind3 p.2 = 3) = b3 at *
        generalize ((kind3 p.2 : Nat) : Int) = kz at *
        clear hx c3 c4 c5 HL3 H3 HK
        obtain ⟨-, d1, -⟩ := box6 H4.out.at0
        go_wp2_with fail
        clear d1
        go_loopw [38] (fun i wr => ∃ j : Nat, j ≤ r.allow.length ∧ i = .int .i64 j ∧ Hid ((r.allow.take j).any (okA p.2) = false) ∧ Below x4.heap.size x4 wr) (fun i _ => r.allow.length - (intOf i).toNat)
        case atStart => exact ⟨0, by omega, rfl, Lib.hid rfl, Below.refl _ _⟩
        case round =>
          obtain ⟨j, hj, rfl, hall, hb⟩ := hrel
          by_cases hlt : j < r.allow.length
          · obtain ⟨g, q, hix, hg, a0', a1', a2'⟩ := al_at HL4.out qc hlt
            have a0 := (hb.cell (p := ⟨g, q, none⟩) hg).trans a0'
            have a1 := (hb.cell (p := ⟨g, q + 1, none⟩) hg).trans a1'
            have a2 := (hb.cell (p := ⟨g, q + 2, none⟩) hg).trans a2'
            have hat := any_take (p := okA p.2) hlt
            rw [hall.out, Bool.false_or] at hat
            have HY := Lib.hid (fun h => show r.allow.any (okA p.2) = true from List.any_eq_true.2 ⟨_, List.getElem_mem hlt, h⟩)
            generalize r.allow[j] = a at *
            have al := Tr.fresh_one wr (.cells #[.string a.ty, .string a.rel, .bool a.wild] tAl)
            have HJ := Lib.hid (And.intro (hb.trans (al.mono hb.size)) ((H4.out.step hb).new #[.string a.ty, .string a.rel, .bool a.wild] tAl rfl))
            have HAT := Lib.hid hat
            obtain ⟨-, y1, -⟩ := box6 (H4.out.step hb).at0
            clear hg a0' a1' a2' hat hall hb al
            go_upto_region 11 with fail
            clear hix a0 a1 a2 y1
            obtain ⟨m0, m1, m2⟩ := box3 HJ.out.2.at0
            obtain ⟨-, -, -, n3, n4, n5⟩ := box6 HJ.out.2.at2
            generalize wr.alloc (.cells #[.string a.ty, .string a.rel, .bool a.wild] tAl) = Z at *
            generalize wr.heap.size = RZ at *
            cases h1 : same a.ty (bs p.2.1) with
            | false =>
              have e1 : (a.ty.toList == (bs p.2.1).toList) = false := h1
              have HF := Lib.hid (show okA p.2 a = false by rw [HO.out, h1]; rfl)
              clear h1
              go_wp2_with fail
              go_roundw
              case rel => exact ⟨j + 1, by omega, by go_num, Lib.hid (by rw [HAT.out, HF.out]), HJ.out.1⟩
              case measure => simp [intOf]; omega
            | true =>
              have e1 : (a.ty.toList == (bs p.2.1).toList) = true := h1
              cases h2 : same a.rel (bs p.2.2.2) with
              | false =>
                have e2 : (a.rel.toList == (bs p.2.2.2).toList) = false := h2
                have HF := Lib.hid (show okA p.2 a = false by rw [HO.out, h1, h2]; rfl)
                clear h1 h2
                go_wp2_with fail
                go_roundw
                case rel => exact ⟨j + 1, by omega, by go_num, Lib.hid (by rw [HAT.out, HF.out]), HJ.out.1⟩
                case measure => simp [intOf]; omega
              | true =>
                have e2 : (a.rel.toList == (bs p.2.2.2).toList) = true := h2
                cases h3 : (a.wild == b3) with
                | false =>
                  have HF := Lib.hid (show okA p.2 a = false by rw [HO.out, h1, h2, h3]; rfl)
                  clear h1 h2
                  go_wp2_with fail
                  go_roundw
                  case rel => exact ⟨j + 1, by omega, by go_num, Lib.hid (by rw [HAT.out, HF.out]), HJ.out.1⟩
                  case measure => simp [intOf]; omega
                | true =>
                  have HF := Lib.hid (HY.out (show okA p.2 a = true by rw [HO.out, h1, h2, h3]; rfl))
                  clear h1 h2
                  go_wp2_with fail
                  go_ret
                  exact ⟨by rw [HE.out, HF.out]; rfl, HJ.out.2.below⟩
          · have hj' : j = r.allow.length := by omega
            subst hj'
            have ha := hall.out
            rw [List.take_length] at ha
            have HF := Lib.hid ha
            have HB := Lib.hid (H4.out.step hb)
            clear ha hall hb
            go_wp2_with fail
            go_ret
            exact ⟨by rw [HE.out, HF.out]; rfl, HB.out.below⟩

/-- A configuration that is soon gone through, and sound. -/
def Sound (l : List Ty) : Prop := few9 l = true ∧ ∃ S t r its, CheckOut l S t r 0 its
theorem Sound.good {l : List Ty} (h : Sound l) : Cn.gC l = true ∧ (Lt.namesP l).2.2 = 0 := by
  obtain ⟨-, S, t, r, its, h⟩ := h
  rcases h with ⟨-, -, -, -, h⟩ | ⟨-, h1, -, -, -, h2⟩ | ⟨-, -, -, h, -⟩ | ⟨h1, h2, -⟩
  · cases h
  · exact absurd h2.symm h1
  · cases h
  · exact ⟨h1, h2⟩
set_option maxHeartbeats 8000000 in
set_option maxRecDepth 100000 in
theorem sound_any (l : List Ty) (v : Value) (w : World) (h : IsCf w l v) (hs : ShortC l) (ha : ∀ t ∈ l, ∀ r ∈ t.rels, r.allow.length ≤ 281474976710656) :
    Calls Tryz.prog 16 #[v] w fun e x => ∃ b, e = .returned (.bool b) ∧ (b = true → Sound l) ∧ Below w.heap.size w x := by
  have HF := Lib.hid (fun x (hx : Below w.heap.size w x) => few9_any l v x (h.below hx) ha)
  have HC := Lib.hid (fun (hf : few9 l = true) x (hx : Below w.heap.size w x) => Lt.rcheck_any l v x (h.below hx) hs (few9_parts hf).2.1 (few9_parts hf).2.2.1 (few9_parts hf).2.2.2)
  obtain ⟨ao, cap, us, rfl, -⟩ := h
  have H0 := Lib.hid ((On.start w).new #[.slice ao l.length cap] tCf rfl)
  have b0 := box1 H0.out.at0
  clear hs ha
  cases hf : few9 l with
  | false =>
    rw [hf] at HF
    clear hf HC
    go_enter Tryz.func16, Tryz.ntmps16
    go_wp2_with fail
    refine (HF.out _ H0.out.below).mono ?_
    rintro e x ⟨rfl, hx⟩
    have H1 := Lib.hid (H0.out.step hx)
    clear hx
    go_wp2_with fail
    go_ret
    exact ⟨false, rfl, (fun h => by cases h), H1.out.below⟩
  | true =>
    have HC := Lib.hid (HC.out hf)
    have HQ := Lib.hid hf
    rw [hf] at HF
    clear hf
    go_enter Tryz.func16, Tryz.ntmps16
    go_wp2_with fail
    refine (HF.out _ H0.out.below).mono ?_
    rintro e x ⟨rfl, hx⟩
    have H1 := Lib.hid (H0.out.step hx)
    clear hx b0
    have b0 := box1 H1.out.at0
    go_wp2_with fail
    refine (HC.out _ H1.out.below).mono ?_
    rintro e y ⟨u, t, r, code, S, its, rfl, hck, -, hx⟩
    have H2 := Lib.hid (And.intro hck (H1.out.step hx))
    clear hx b0 hck
    go_wp2_with fail
    go_ret
    refine ⟨_, rfl, fun hb => ?_, H2.out.2.below⟩
    have hc : code = 0 := by simpa using hb
    subst hc
    exact ⟨HQ.out, S, t, r, its, H2.out.1⟩
end Lo
end Go.Proofs.YtopncohhagebbaaGreatDoor
