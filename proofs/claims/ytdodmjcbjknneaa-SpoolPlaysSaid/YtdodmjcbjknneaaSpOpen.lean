/-
  Layer 13: the program's Open.
-/
import Derived.Test.YtdodmjcbjknneaaSpFind
namespace Go.Proofs.Ytdodmjcbjknneaa
set_option maxRecDepth 100000
open Go.RowKit
open Knot (Turns NewRow)
open Ta (IsBytes Stay sec nul ptr IsT)
namespace Sp
/-- May a spool be opened so, upon a tray of n sectors? -/
def Opens (n : Nat) (f c head epoch : Int) : Prop := (2 ≤ c ∧ c ≤ 4096 ∧ 0 ≤ f ∧ f ≤ n - c) ∧ 0 ≤ head ∧ head ≤ 1099511627776 ∧ 1 ≤ epoch ∧ epoch ≤ 4294967295
section
variable {w : World} {p n : Nat} {t : Ta.Tray (List UInt8)} {F : Nat → Prop} {f c head epoch : Int}
set_option maxHeartbeats 8000000 in
set_option maxRecDepth 100000 in
theorem open_bad (hf : -9223372036854775808 ≤ f ∧ f ≤ 9223372036854775807) (hc : -9223372036854775808 ≤ c ∧ c ≤ 9223372036854775807) (ht : IsT w p n t F) (ho : ¬ Opens n f c head epoch) :
    Calls Try.prog 15 #[ptr p, .agg #[.int .i64 f, .int .i64 c], .int .i64 head, .int .i64 epoch] w fun e x => e = .returned (.tuple #[.pointer none, .slice none 0 0, .int .i64 1]) ∧ Below w.heap.size w x := by
  have hb : Below w.heap.size w (w.alloc (.cells #[.int .i64 f, .int .i64 c] tRg)) := (Below.refl _ _).alloc (Nat.le_refl _) _
  have HO := Lib.hid (of_any f c hf hc (ht.below hb))
  obtain ⟨ok, hok⟩ : ∃ b : Bool, b = decide (2 ≤ c ∧ c ≤ 4096 ∧ 0 ≤ f ∧ f ≤ (n : Int) - c) := ⟨_, rfl⟩
  rw [← hok] at HO
  have HB := Lib.hid hb
  have HK := Lib.hid (And.intro hok ho)
  clear hb hok ho ht hf hc
  cases ok with
  | false =>
    go_enter Try.func15, Try.ntmps15
    go_wp2_with fail
    refine HO.out.mono ?_
    rintro e x ⟨rfl, hx⟩
    have HX := Lib.hid (HB.out.trans (hx.mono HB.out.size))
    clear hx
    go_wp2_with fail
    refine bodyPost_ret (v := .tuple #[.pointer none, .slice none 0 0, .int .i64 1]) (by simp [results, Try.results15, go_sem]) rfl ?_
    exact ⟨rfl, HX.out⟩
  | true =>
    have hbad : head < 0 ∨ 1099511627776 < head ∨ epoch < 1 ∨ 4294967295 < epoch := by
      have h1 := of_decide_eq_true HK.out.1.symm
      have h2 := HK.out.2
      unfold Opens at h2
      by_cases g1 : head < 0
      · exact .inl g1
      · by_cases g2 : 1099511627776 < head
        · exact .inr (.inl g2)
        · by_cases g3 : epoch < 1
          · exact .inr (.inr (.inl g3))
          · exact .inr (.inr (.inr (by
              apply Classical.byContradiction
              intro g4
              exact h2 ⟨h1, by omega, by omega, by omega, by omega⟩)))
    by_cases g1 : head < 0
    · clear hbad
      go_enter Try.func15, Try.ntmps15
      go_wp2_with fail
      refine HO.out.mono ?_
      rintro e x ⟨rfl, hx⟩
      have HX := Lib.hid (HB.out.trans (hx.mono HB.out.size))
      clear hx
      go_wp2_with fail
      refine bodyPost_ret (v := .tuple #[.pointer none, .slice none 0 0, .int .i64 1]) (by simp [results, Try.results15, go_sem]) rfl ?_
      exact ⟨rfl, HX.out⟩
    · by_cases g2 : 1099511627776 < head
      · clear hbad
        go_enter Try.func15, Try.ntmps15
        go_wp2_with fail
        refine HO.out.mono ?_
        rintro e x ⟨rfl, hx⟩
        have HX := Lib.hid (HB.out.trans (hx.mono HB.out.size))
        clear hx
        go_wp2_with fail
        refine bodyPost_ret (v := .tuple #[.pointer none, .slice none 0 0, .int .i64 1]) (by simp [results, Try.results15, go_sem]) rfl ?_
        exact ⟨rfl, HX.out⟩
      · by_cases g3 : epoch < 1
        · clear hbad
          go_enter Try.func15, Try.ntmps15
          go_wp2_with fail
          refine HO.out.mono ?_
          rintro e x ⟨rfl, hx⟩
          have HX := Lib.hid (HB.out.trans (hx.mono HB.out.size))
          clear hx
          go_wp2_with fail
          refine bodyPost_ret (v := .tuple #[.pointer none, .slice none 0 0, .int .i64 1]) (by simp [results, Try.results15, go_sem]) rfl ?_
          exact ⟨rfl, HX.out⟩
        · have g4 : 4294967295 < epoch := by omega
          clear hbad
          go_enter Try.func15, Try.ntmps15
          go_wp2_with fail
          refine HO.out.mono ?_
          rintro e x ⟨rfl, hx⟩
          have HX := Lib.hid (HB.out.trans (hx.mono HB.out.size))
          clear hx
          go_wp2_with fail
          refine bodyPost_ret (v := .tuple #[.pointer none, .slice none 0 0, .int .i64 1]) (by simp [results, Try.results15, go_sem]) rfl ?_
          exact ⟨rfl, HX.out⟩
set_option maxHeartbeats 8000000 in
set_option maxRecDepth 100000 in
theorem open_any (s : S) (hs : s.tail = s.head) (hd : s.dead = false) (ho : Opens n s.first s.count s.head s.epoch) (ht : IsT w p n t F) :
    Calls Try.prog 15 #[ptr p, .agg #[.int .i64 (s.first : Int), .int .i64 (s.count : Int)], .int .i64 (s.head : Int), .int .i64 (s.epoch : Int)] w fun e x => ∃ q v, e = .returned (.tuple #[ptr q, v, .int .i64 0]) ∧ Below w.heap.size w x ∧ w.heap.size ≤ q ∧
      SpB x q p { s with tail := (found t s).2 } ∧ Recs w.heap.size (fun k => k < w.heap.size ∨ k = q) x v (found t s).1 ∧ s.tail ≤ (found t s).2 ∧ (found t s).2 ≤ s.head + s.count + 65535 := by
  obtain ⟨⟨o1, o2, o3, o4⟩, o5, o6, o7, o8⟩ := ho
  have hb : Below w.heap.size w (w.alloc (.cells #[.int .i64 (s.first : Int), .int .i64 (s.count : Int)] tRg)) := (Below.refl _ _).alloc (Nat.le_refl _) _
  have hnum := ht.num
  have HO := Lib.hid (of_any (s.first : Int) (s.count : Int) (by omega) (by omega) (ht.below hb))
  rw [decide_eq_true (show 2 ≤ (s.count : Int) ∧ (s.count : Int) ≤ 4096 ∧ 0 ≤ (s.first : Int) ∧ (s.first : Int) ≤ (n : Int) - (s.count : Int) from ⟨o1, o2, o3, o4⟩)] at HO
  have hfit : Fits s := ⟨by omega, by omega, by omega, by omega, by omega⟩
  have HB := Lib.hid (And.intro hb (And.intro ht (And.intro hfit (And.intro hs (show s.first + s.count ≤ n by omega)))))
  have d1 : ¬ (s.head : Int) < 0 := by omega
  have d2 : ¬ (1099511627776 : Int) < (s.head : Int) := by omega
  have d3 : ¬ (s.epoch : Int) < 1 := by omega
  have d4 : ¬ (4294967295 : Int) < (s.epoch : Int) := by omega
  have hcell := heap_alloc_new w (.cells #[.int .i64 (s.first : Int), .int .i64 (s.count : Int)] tRg)
  have HC := Lib.hid hcell
  have HH := Lib.hid (And.intro hd o6)
  clear hb hcell hfit hd hs o1 o2 o3 o4 o5 o7 o8 ht hnum
  go_enter Try.func15, Try.ntmps15
  go_wp2_with fail
  refine HO.out.mono ?_
  rintro e x ⟨rfl, hx⟩
  have hxc : x.heap[w.heap.size]? = some (.cells #[.int .i64 (s.first : Int), .int .i64 (s.count : Int)] tRg (0, 0)) := (hx.block w.heap.size (by simp)).trans HC.out
  have HX := Lib.hid (HB.out.1.trans (hx.mono HB.out.1.size))
  have r0 : x.cell? ⟨w.heap.size, 0, none⟩ = some (.int .i64 (s.first : Int)) := by rw [Lib.cell_of_heap hxc]; rfl
  have r1 : x.cell? ⟨w.heap.size, 1, none⟩ = some (.int .i64 (s.count : Int)) := by rw [Lib.cell_of_heap hxc]; rfl
  have hwx : w.heap.size < x.heap.size := (Array.getElem?_eq_some_iff.1 hxc).1
  clear hx hxc HO HC
  have hyy : Below x.heap.size x (x.alloc (.cells (boxS p s) tSo)) := (Below.refl _ _).alloc (Nat.le_refl _) _
  have hwy : Below w.heap.size w (x.alloc (.cells (boxS p s) tSo)) := HX.out.trans (hyy.mono HX.out.size)
  have hsp : SpB (x.alloc (.cells (boxS p s) tSo)) x.heap.size p s := heap_alloc_new x _
  have HFi := Lib.hid (find_any hsp HB.out.2.2.1 (HB.out.2.1.below hwy) HB.out.2.2.2.2 (fun h => by have := HB.out.2.1.low _ h; have := HX.out.size; omega) HB.out.2.2.2.1 (by have := HH.out.2; omega))
  have HY := Lib.hid (And.intro hwy hyy)
  clear hyy hwy hsp
  unfold boxS at HFi HY
  rw [HB.out.2.2.2.1, HH.out.1] at HFi HY
  go_wp2_with fail
  refine HFi.out.mono ?_
  rintro e z ⟨v, rfl, ht, hz, hr, h1, h2⟩
  have hb : Below w.heap.size w z := HY.out.1.trans (ht.below HY.out.1.size fun k e => by omega)
  have hr2 : Recs w.heap.size (fun k => k < w.heap.size ∨ k = x.heap.size) z v (found t s).1 := by
    obtain ⟨vs, g1, g2⟩ := hr
    refine ⟨vs, Ta.own_base g1 (by simp; omega), fun i hi => ?_⟩
    obtain ⟨u, hu, hst⟩ := g2 i hi
    refine ⟨u, hu, hst.grow (Turns.refl _ _) fun k _ hk => ?_⟩
    rcases hk with (hk | hk) | hk
    · exact .inl (by simp; omega)
    · exact .inl (by simp; omega)
    · exact .inr hk
  have HE := Lib.hid (And.intro hb (And.intro hz (And.intro hr2 (And.intro h1 h2))))
  clear ht hz hr hr2 hb h1 h2 HFi
  go_wp2_with fail
  refine bodyPost_ret (v := .tuple #[ptr x.heap.size, v, .int .i64 0]) (by simp [results, Try.results15, go_sem]) rfl ⟨x.heap.size, v, rfl, HE.out.1, by omega, by rw [HH.out.1]; exact HE.out.2.1, HE.out.2.2.1, by rw [HB.out.2.2.2.1]; exact HE.out.2.2.2⟩
end
end Sp
end Go.Proofs.Ytdodmjcbjknneaa
