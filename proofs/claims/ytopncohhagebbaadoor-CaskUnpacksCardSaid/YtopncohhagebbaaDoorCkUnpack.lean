/-
  Layer 10 (cask): Unpack, at any bytes.
-/
import Derived.Test.YtopncohhagebbaaDoorCkTakes
import Derived.Test.YtopncohhagebbaaDoorCkGood
import Derived.Test.YtopncohhagebbaaDoorCnGood
namespace Go.Proofs.YtopncohhagebbaaDoor
open Go.RowKit Go.Sort
namespace Ck
open Knot (Turns NewRow Inn At iptr)
open Tr (Nd none0 node4 own_slice)
open Who (bs bs_list bs_size bs_self eq_of_list)
open Gr (Al Rl Ty Elt RowS tyV tTy tCf IsCf set_own)

/-- What Unpack answers. -/
def Unp (b : List UInt8) (w : World) (e : Ending) (x : World) : Prop :=
  Below w.heap.size w x ∧ ((unpack b = none ∧ e = .returned (.tuple #[.agg #[.slice none 0 0], .int .i64 2])) ∨ ∃ l v, unpack b = some l ∧ e = .returned (.tuple #[v, .int .i64 0]) ∧ CfU x w.heap.size l v)
set_option maxHeartbeats 8000000 in
set_option maxRecDepth 100000 in
theorem unpack_any (bv : Value) (s : ByteArray) (w : World) (hc : ∀ W, Below w.heap.size w W → (Go.convert 22 9 bv).run Tryd.prog W = .ok (.string s) W) (hz : s.size ≤ 90000000) :
    Calls Tryd.prog 5 #[bv] w (Unp s.data.toList w) := by
  obtain ⟨b, hb⟩ : ∃ b, b = s.data.toList := ⟨_, rfl⟩
  have hs : s = bs b := by rw [hb, bs_self]
  have hbl : b.length ≤ 90000000 := by rw [hb, ← Lib.size_eq]; exact hz
  rw [← hb]
  subst hs
  have al := (Below.refl w.heap.size w).alloc (Nat.le_refl _) (.cells #[.slice none 0 0] tCf)
  have hk := heap_alloc_new w (.cells #[.slice none 0 0] tCf)
  have H0 := Lib.hid (And.intro al hk)
  have HO := Lib.hid (Knot.open_any bv (bs b) (w.alloc (.cells #[.slice none 0 0] tCf)) fun W e => by rw [e]; exact hc _ al)
  have hR : w.heap.size < (w.alloc (.cells #[.slice none 0 0] tCf)).heap.size := by simp
  have HB := Lib.hid hbl
  have HU := Lib.hid (confP_unpack b)
  clear hc hz hb al hk hbl
  go_enter Tryd.func5, Tryd.ntmps5
  go_wp2_with fail
  generalize w.alloc (.cells #[.slice none 0 0] 26) = w1 at *
  refine HO.out.mono ?_
  rintro e w2 ⟨rfl, h1, hb2⟩
  have HI := Lib.hid (show w.heap.size < w1.heap.size from hR)
  have H2 := Lib.hid (And.intro (H0.out.1.trans (hb2.mono H0.out.1.size)) ((hb2.block _ hR).trans H0.out.2))
  have HL := Lib.hid (takeT_any (N := 90000000) (W := w2) (f := 11) (cap0 := #[]) (p := typeP) top (s := (b, false)) enter_type (fun _ => type_part w1.heap.size 90000000 w2 (Nat.le_refl _)) h1 HB.out (Nat.le_refl _) (Turns.refl _ _))
  have hI2 := h1.lt
  clear h1 hb2 HO H0 hR
  rw [show confP (b, false) = listP top typeP (b, false) from rfl] at HU
  generalize listP top typeP (b, false) = q at *
  obtain ⟨l, s2⟩ := q
  simp only at HU
  go_wp2_with fail
  refine HL.out.mono ?_
  rintro e w3 ⟨v, rfl, hv, h1, h2⟩
  have hb3 : Below w.heap.size w w3 := H2.out.1.trans (h2.below H2.out.1.size fun k hk => by have e : k = w1.heap.size := hk; have := HI.out; omega)
  have hk3 := (h2.block w.heap.size (by have := HI.out; omega) (fun e => by have e' : w.heap.size = w1.heap.size := e; have := HI.out; omega)).trans H2.out.2
  have hrow := hv.mono (C := w.heap.size + 1) (Array.getElem?_eq_some_iff.1 H2.out.2).1
  obtain ⟨ao, cap, rfl⟩ := hv.slice
  simp only at hrow h1
  have al := Tr.fresh_one w3 (.cells #[.slice ao l.length cap] tCf)
  have hc := heap_alloc_new w3 (.cells #[.slice ao l.length cap] tCf)
  have H4 := Lib.hid (And.intro (hb3.trans (al.mono hb3.size)) (And.intro ((al.block _ (Array.getElem?_eq_some_iff.1 hk3).1).trans hk3) (And.intro hc (And.intro (hrow.below al) (h1.below al)))))
  have hne : ¬ w.heap.size = w3.heap.size := by have := (Array.getElem?_eq_some_iff.1 hk3).1; omega
  have HNe := Lib.hid hne
  clear hv h1 h2 hb3 hk3 hrow al hc HL H2 hne hI2 HI
  go_upto_region 3 with fail
  generalize w3.alloc (.cells #[.slice ao l.length cap] 26) = w4 at *
  generalize w3.heap.size = Rc at *
  have HE := Lib.hid (end_p w1.heap.size s2 w4 H4.out.2.2.2.2)
  by_cases hend : s2.2 = true ∨ s2.1 ≠ []
  · have hun : unpack b = none := by
      rcases HU.out with ⟨h, -⟩ | ⟨m, -, h, -⟩
      · exact h
      · exfalso
        obtain ⟨-, e⟩ := Prod.mk.inj h
        rw [e] at hend
        rcases hend with h | h
        · cases h
        · exact h rfl
    rw [if_pos hend] at HE
    have HUn := Lib.hid hun
    clear hend hun HU
    go_wp2_with fail
    refine HE.out.mono ?_
    rintro e y ⟨rfl, rfl⟩
    have c0 := Gr.box1 H4.out.2.1
    have f0 := Lib.frozen_of_heap H4.out.2.1 0
    have hset := H4.out.1.setCell (p := ⟨w.heap.size, 0, none⟩) (Nat.le_refl _) (.slice none 0 0)
    have g0 := Gr.box1 (Lib.heap_setCell_same (i := 0) H4.out.2.1 (.slice none 0 0))
    have HF := Lib.hid (And.intro hset g0)
    clear hset g0 H4
    go_wp2_with fail
    have g0 := HF.out.2
    exact bodyPost_ret (v := .tuple #[.agg #[.slice none 0 0], .int .i64 2]) (by simp [results, Tryd.results5, go_sem, g0]) rfl ⟨HF.out.1, .inl ⟨HUn.out, rfl⟩⟩
  · have hs1 : s2.1 = [] := by
      cases h : s2.1 with
      | nil => rfl
      | cons a m => exact absurd (.inr (by rw [h]; simp)) hend
    have hs2 : s2.2 = false := by
      cases h : s2.2 with
      | false => rfl
      | true => exact absurd (.inl h) hend
    have hu : (Cn.gC l = false → unpack b = none) ∧ (Cn.gC l = true → unpack b = some l) := by
      rcases HU.out with ⟨h, h2⟩ | ⟨m, h, h2, h3⟩
      · refine ⟨fun _ => h, fun hg => ?_⟩
        exfalso
        rcases h2 with h2 | h2 | h2
        · rw [hs2] at h2; cases h2
        · exact h2 hs1
        · rw [hg] at h2; cases h2
      · obtain ⟨e, -⟩ := Prod.mk.inj h2
        subst e
        exact ⟨fun hg => (by rw [h3] at hg; cases hg), fun _ => h⟩
    have HUn := Lib.hid hu
    rw [if_neg hend] at HE
    have hcf : CfU w4 w.heap.size l (.agg #[.slice ao l.length cap]) := ⟨ao, cap, rfl, H4.out.2.2.2.1.mono (Nat.le_succ _)⟩
    have HG := Lib.hid (Cn.Good_any l _ w4 hcf.is)
    have b0 := Gr.box1 H4.out.2.2.1
    clear hend hs1 hs2 hu HU hcf
    go_wp2_with fail
    refine HE.out.mono ?_
    rintro e y ⟨rfl, rfl⟩
    go_wp2_with fail
    refine HG.out.mono ?_
    rintro e y2 ⟨rfl, hy⟩
    have H5 := Lib.hid (And.intro (H4.out.1.trans (hy.mono H4.out.1.size)) (And.intro ((hy.block _ (Array.getElem?_eq_some_iff.1 H4.out.2.1).1).trans H4.out.2.1) (And.intro ((hy.block _ (Array.getElem?_eq_some_iff.1 H4.out.2.2.1).1).trans H4.out.2.2.1) (H4.out.2.2.2.1.below hy))))
    clear hy H4 HG HE b0
    have c0 := Gr.box1 H5.out.2.1
    have f0 := Lib.frozen_of_heap H5.out.2.1 0
    have b0 := Gr.box1 H5.out.2.2.1
    cases hg : Cn.gC l with
    | false =>
      have hset := H5.out.1.setCell (p := ⟨w.heap.size, 0, none⟩) (Nat.le_refl _) (.slice none 0 0)
      have g0 := Gr.box1 (Lib.heap_setCell_same (i := 0) H5.out.2.1 (.slice none 0 0))
      have HF := Lib.hid (And.intro hset (And.intro g0 (HUn.out.1 hg)))
      clear hset g0 H5 hg
      go_wp2_with fail
      have g0 := HF.out.2.1
      exact bodyPost_ret (v := .tuple #[.agg #[.slice none 0 0], .int .i64 2]) (by simp [results, Tryd.results5, go_sem, g0]) rfl ⟨HF.out.1, .inl ⟨HF.out.2.2, rfl⟩⟩
    | true =>
      have hset := H5.out.1.setCell (p := ⟨w.heap.size, 0, none⟩) (Nat.le_refl _) (.slice ao l.length cap)
      have g0 := Gr.box1 (Lib.heap_setCell_same (i := 0) H5.out.2.1 (.slice ao l.length cap))
      have hrow := (H5.out.2.2.2.turn (set_own y2 w.heap.size 0 (.slice ao l.length cap)) fun g hg _ e => by omega).mono (C := w.heap.size) (Nat.le_succ _)
      have HF := Lib.hid (And.intro hset (And.intro g0 (And.intro (HUn.out.2 hg) hrow)))
      clear hset g0 H5 hg hrow
      go_wp2_with fail
      have g0 := HF.out.2.1
      exact bodyPost_ret (v := .tuple #[.agg #[.slice ao l.length cap], .int .i64 0]) (by simp [results, Tryd.results5, go_sem, g0]) rfl ⟨HF.out.1, .inr ⟨l, _, HF.out.2.2.1, rfl, ao, cap, rfl, HF.out.2.2.2⟩⟩
end Ck
end Go.Proofs.YtopncohhagebbaaDoor
