/-
  Layer 15: a tree that is turned.
-/
import Derived.Test.YtldacdpejncbnaaHgMem
namespace Go.Proofs.Ytldacdpejncbnaa
open Go.RowKit
namespace Hg
open Knot (Turns NewRow)

/-- Two blocks. -/
def Two (b c : Nat) (q : Nat) : Prop := q = b ∨ q = c
theorem two_sets (w : World) (b c j i : Nat) (u v : Value) : Turns (Two b c) w ((w.setCell ⟨b, j, none⟩ u).setCell ⟨c, i, none⟩ v) :=
  ((Turns.refl (Two b c) w).setCell (p := ⟨b, j, none⟩) (.inl rfl) u).setCell (p := ⟨c, i, none⟩) (.inr rfl) v
set_option maxHeartbeats 4000000 in
set_option maxRecDepth 100000 in
theorem turnedLeft_any {b b2 : Nat} {k k2 : ByteArray} {a a2 c c2 : Int} {l m r : T} (w : World) (h : Nd w b k a c (loc l) (some ⟨b2, 0, none⟩)) (h2 : Nd w b2 k2 a2 c2 (loc m) (loc r)) (hl : IsT w l) (hm : IsT w m) (hr : IsT w r) (hne : b ≠ b2)
    (hfl : ∀ q ∈ l.blks, ¬ Two b b2 q) (hfm : ∀ q ∈ m.blks, ¬ Two b b2 q) (hfr : ∀ q ∈ r.blks, ¬ Two b b2 q) (hs : l.size + m.size + r.size ≤ 90000) :
    Calls Try.prog 46 #[.pointer (some ⟨b, 0, none⟩)] w fun e x => e = .returned (.pointer (some ⟨b2, 0, none⟩)) ∧ Turns (Two b b2) w x ∧ IsT x (.bin b2 (.bin b l k a m) k2 a2 r) := by
  obtain ⟨c0, c1, c2', c3, c4⟩ := h.cells
  obtain ⟨d0, d1, d2, d3, d4⟩ := h2.cells
  have f1 := h.free 4
  have f2 := h2.free 3
  obtain ⟨W1, hW1⟩ : ∃ W1, W1 = (w.setCell ⟨b, 4, none⟩ (.pointer (loc m))).setCell ⟨b2, 3, none⟩ (.pointer (some ⟨b, 0, none⟩)) := ⟨_, rfl⟩
  have t1 : Turns (Two b b2) w W1 := by rw [hW1]; exact two_sets ..
  have n1 : Nd W1 b k a c (loc l) (loc m) := by rw [hW1]; exact (h.setr _).turn (turn1 _ b2 3 _) fun e => hne e
  have n2 : Nd W1 b2 k2 a2 c2 (some ⟨b, 0, none⟩) (loc r) := by rw [hW1]; exact (h2.turn (turn1 w b 4 _) fun e => hne e.symm).setl (some ⟨b, 0, none⟩)
  have HM := Lib.hid (And.intro (hl.turn t1 hfl) (And.intro (hm.turn t1 hfm) (And.intro (hr.turn t1 hfr) (And.intro t1 n2))))
  have HB := Lib.hid (And.intro hne (And.intro hfl (And.intro hfm hfr)))
  have HR := Lib.hid (recount_any (l := l) (r := m) W1 n1 HM.out.1 HM.out.2.1 (by omega))
  have HW := Lib.hid hW1
  have HZ := Lib.hid hs
  clear h h2 hl hm hr hfl hfm hfr t1 n1 n2 hW1 c0 c1 c2' d0 d1 d2 hs
  have e1 := hne.symm
  go_enter Try.func46, Try.ntmps46
  go_wp2_with fail
  rw [← HW.out]
  clear c3 c4 d3 d4 f1 f2 HW
  refine HR.out.mono ?_
  rintro e x1 ⟨rfl, ht1, hn1⟩
  obtain ⟨-, hfl, hfm, hfr⟩ := HB.out
  obtain ⟨hl1, hm1, hr1, ht, hn2⟩ := HM.out
  have g1 : ∀ q, q = b → Two b b2 q := fun q h => .inl h
  replace hl1 := hl1.turn ht1 fun q hq e => hfl q hq (.inl e)
  replace hm1 := hm1.turn ht1 fun q hq e => hfm q hq (.inl e)
  replace hr1 := hr1.turn ht1 fun q hq e => hfr q hq (.inl e)
  replace hn2 := hn2.turn ht1 fun e => HB.out.1 e.symm
  replace ht := ht.trans (G := fun q => q = b) ht1 fun q _ h => .inl h
  have HR2 := Lib.hid (recount_any (l := (.bin b l k a m)) (r := r) x1 hn2 (show IsT x1 (.bin b l k a m) from ⟨hn1, hl1, hm1⟩) hr1 (by have := HZ.out; simp only [T.size]; omega))
  have HX := Lib.hid (And.intro hl1 (And.intro hm1 (And.intro hr1 (And.intro hn1 ht))))
  clear hl1 hm1 hr1 hn1 ht ht1 hn2 HR HM hfl hfm hfr g1
  go_wp2_with fail
  refine HR2.out.mono ?_
  rintro e x2 ⟨rfl, ht2, hn2⟩
  go_wp2_with fail
  go_ret
  obtain ⟨hl1, hm1, hr1, hn1, ht⟩ := HX.out
  obtain ⟨-, hfl', hfm', hfr'⟩ := HB.out
  have hfl : ∀ q ∈ l.blks, ¬ q = b2 := fun q hq e => hfl' q hq (.inr e)
  have hfm : ∀ q ∈ m.blks, ¬ q = b2 := fun q hq e => hfm' q hq (.inr e)
  have hfr : ∀ q ∈ r.blks, ¬ q = b2 := fun q hq e => hfr' q hq (.inr e)
  exact ⟨rfl, ht.trans ht2 fun q _ h => .inr h, ⟨hn2, ⟨hn1.turn ht2 (fun e => HB.out.1 e), hl1.turn ht2 hfl, hm1.turn ht2 hfm⟩, hr1.turn ht2 hfr⟩⟩
set_option maxHeartbeats 4000000 in
set_option maxRecDepth 100000 in
theorem turnedRight_any {b b2 : Nat} {k k2 : ByteArray} {a a2 c c2 : Int} {l m r : T} (w : World) (h : Nd w b k a c (some ⟨b2, 0, none⟩) (loc l)) (h2 : Nd w b2 k2 a2 c2 (loc r) (loc m)) (hl : IsT w l) (hm : IsT w m) (hr : IsT w r) (hne : b ≠ b2)
    (hfl : ∀ q ∈ l.blks, ¬ Two b b2 q) (hfm : ∀ q ∈ m.blks, ¬ Two b b2 q) (hfr : ∀ q ∈ r.blks, ¬ Two b b2 q) (hs : l.size + m.size + r.size ≤ 90000) :
    Calls Try.prog 47 #[.pointer (some ⟨b, 0, none⟩)] w fun e x => e = .returned (.pointer (some ⟨b2, 0, none⟩)) ∧ Turns (Two b b2) w x ∧ IsT x (.bin b2 r k2 a2 (.bin b m k a l)) := by
  obtain ⟨c0, c1, c2', c3, c4⟩ := h.cells
  obtain ⟨d0, d1, d2, d3, d4⟩ := h2.cells
  have f1 := h.free 3
  have f2 := h2.free 4
  obtain ⟨W1, hW1⟩ : ∃ W1, W1 = (w.setCell ⟨b, 3, none⟩ (.pointer (loc m))).setCell ⟨b2, 4, none⟩ (.pointer (some ⟨b, 0, none⟩)) := ⟨_, rfl⟩
  have t1 : Turns (Two b b2) w W1 := by rw [hW1]; exact two_sets ..
  have n1 : Nd W1 b k a c (loc m) (loc l) := by rw [hW1]; exact (h.setl _).turn (turn1 _ b2 4 _) fun e => hne e
  have n2 : Nd W1 b2 k2 a2 c2 (loc r) (some ⟨b, 0, none⟩) := by rw [hW1]; exact (h2.turn (turn1 w b 3 _) fun e => hne e.symm).setr (some ⟨b, 0, none⟩)
  have HM := Lib.hid (And.intro (hl.turn t1 hfl) (And.intro (hm.turn t1 hfm) (And.intro (hr.turn t1 hfr) (And.intro t1 n2))))
  have HB := Lib.hid (And.intro hne (And.intro hfl (And.intro hfm hfr)))
  have HR := Lib.hid (recount_any (l := m) (r := l) W1 n1 HM.out.2.1 HM.out.1 (by omega))
  have HW := Lib.hid hW1
  have HZ := Lib.hid hs
  clear h h2 hl hm hr hfl hfm hfr t1 n1 n2 hW1 c0 c1 c2' d0 d1 d2 hs
  have e1 := hne.symm
  go_enter Try.func47, Try.ntmps47
  go_wp2_with fail
  rw [← HW.out]
  clear c3 c4 d3 d4 f1 f2 HW
  refine HR.out.mono ?_
  rintro e x1 ⟨rfl, ht1, hn1⟩
  obtain ⟨-, hfl, hfm, hfr⟩ := HB.out
  obtain ⟨hl1, hm1, hr1, ht, hn2⟩ := HM.out
  have g1 : ∀ q, q = b → Two b b2 q := fun q h => .inl h
  replace hl1 := hl1.turn ht1 fun q hq e => hfl q hq (.inl e)
  replace hm1 := hm1.turn ht1 fun q hq e => hfm q hq (.inl e)
  replace hr1 := hr1.turn ht1 fun q hq e => hfr q hq (.inl e)
  replace hn2 := hn2.turn ht1 fun e => HB.out.1 e.symm
  replace ht := ht.trans (G := fun q => q = b) ht1 fun q _ h => .inl h
  have HR2 := Lib.hid (recount_any (l := r) (r := (.bin b m k a l)) x1 hn2 hr1 (show IsT x1 (.bin b m k a l) from ⟨hn1, hm1, hl1⟩) (by have := HZ.out; simp only [T.size]; omega))
  have HX := Lib.hid (And.intro hl1 (And.intro hm1 (And.intro hr1 (And.intro hn1 ht))))
  clear hl1 hm1 hr1 hn1 ht ht1 hn2 HR HM hfl hfm hfr g1
  go_wp2_with fail
  refine HR2.out.mono ?_
  rintro e x2 ⟨rfl, ht2, hn2⟩
  go_wp2_with fail
  go_ret
  obtain ⟨hl1, hm1, hr1, hn1, ht⟩ := HX.out
  obtain ⟨-, hfl', hfm', hfr'⟩ := HB.out
  have hfl : ∀ q ∈ l.blks, ¬ q = b2 := fun q hq e => hfl' q hq (.inr e)
  have hfm : ∀ q ∈ m.blks, ¬ q = b2 := fun q hq e => hfm' q hq (.inr e)
  have hfr : ∀ q ∈ r.blks, ¬ q = b2 := fun q hq e => hfr' q hq (.inr e)
  exact ⟨rfl, ht.trans ht2 fun q _ h => .inr h, ⟨hn2, hr1.turn ht2 hfr, hn1.turn ht2 (fun e => HB.out.1 e), hm1.turn ht2 hfm, hl1.turn ht2 hfl⟩⟩
end Hg
end Go.Proofs.Ytldacdpejncbnaa
