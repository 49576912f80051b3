/-
  Layer 14: a hoard in memory that stands firm: laid, kept, imaged, lost and opened again.
-/
import Derived.Test.YtkfmmdiflbnhgaaHoFirmC
import Derived.Test.YtkfmmdiflbnhgaaHoOpen
namespace Go.Proofs.Ytkfmmdiflbnhgaa
set_option maxRecDepth 100000
open Go.RowKit
open Knot (Turns)
open Ta (IsBytes IsFlags Stay sec nul ptr IsT C5 Tray Made)
open Sp (S SpB found Recs IsRecs Live rdS parts append)
namespace Ho
section
variable {n : Nat} {a f : Nat} {img b : List UInt8} {r : List (List UInt8 × Nat)} {H : Hd}
theorem firm_keep (h : Firm n H a f img r) (hb : b.length ≤ 60000) (hl : ∀ k, (rdS (append H.s b H.t).1 H.s k).length = 128) (h1 : H.t.left = -1) (h2 : parts b.length + H.s.tail ≤ H.s.count + H.s.head) :
    (hkeep H b).2 = 0 ∧ Firm n (hkeep H b).1 a f img (r ++ [(b, H.s.epoch)]) ∧ (hkeep H b).1.s = { H.s with tail := H.s.tail + parts b.length } ∧ (hkeep H b).1.t.left = -1 := by
  obtain ⟨g1, g2⟩ := Sp.append_free (s := H.s) (b := b) (t := H.t) (by omega) (by omega) h.live.dead h1
  have e : hkeep H b = ({ H with t := (append H.s b H.t).1, s := (append H.s b H.t).2.1, dead := H.dead || decide ((append H.s b H.t).2.2 = 20) }, (append H.s b H.t).2.2) := if_neg (by rw [h.alive.2]; decide)
  have e2 : (hkeep H b).2 = 0 := by rw [e, g1]
  have e3 : (hkeep H b).1.t.left = -1 := by rw [e]; exact g2
  rcases h.keep hb hl with h3 | ⟨h3, h4, h5⟩ | ⟨h3, -⟩
  · rw [h3] at e2; cases e2
  · exact ⟨e2, h4, h5, e3⟩
  · rw [e2] at h3; cases h3
theorem firm_image (h : Firm n H a f img r) (hh : H.s.tail ≤ 1099511627776) (ha : a + 1 < 140737488355328) (h1 : H.t.left = -1) (h2 : b.length ≤ qu n * 128) :
    (himage n H b).2 = 0 ∧ Firm n (himage n H b).1 (a + 1) (1 - f) b [] ∧ (himage n H b).1.s = { H.s with head := H.s.tail } ∧ (himage n H b).1.t.left = -1 := by
  obtain ⟨g1, g2⟩ := keep_free (a := 2 + (1 - H.m.getD 2 0) * qu n) (b := b) (ms := nextM H b.length) h1
  have e : himage n H b = (⟨(imgK n H b).1, nextM H b.length, { H.s with head := H.s.tail }, H.torn, H.dead⟩, 0) := by
    rw [himage, if_neg (by omega), if_neg (by rw [h.alive.1]; decide), if_pos (show (imgK n H b).2 = 0 from g1)]
  have e2 : (himage n H b).2 = 0 := by rw [e]
  have e3 : (himage n H b).1.t.left = -1 := by rw [e]; exact g2
  rcases h.image (b := b) hh ha with h3 | ⟨h3, h4, h5⟩ | ⟨h3, -⟩
  · rw [h3] at e2; cases e2
  · exact ⟨e2, h4, h5, e3⟩
  · rw [e2] at h3; cases h3
end
section
variable {w x y : World} {h p q n : Nat} {H : Hd} {F : Nat → Prop} {a f e hd tail : Nat} {img b : List UInt8} {r : List (List UInt8 × Nat)} {u : Tray (List UInt8)}
/-- Laid upon a fresh tray. -/
theorem laid_any (hb : Below w.heap.size w x) (hi : IsT x p n Tray.fresh F) (hF : ∀ k, F k → w.heap.size ≤ k) (v : Value) (b : List UInt8) (hv : Stay F x fun x => IsBytes x v b) (h64 : 64 ≤ n) (hl : b.length ≤ qu n * 128) :
    Calls Try.prog 39 #[ptr p, v] x fun e y => ∃ q h F', e = .returned (.tuple #[ptr h, .int .i64 0]) ∧ Hs w y h p q n (hlay n Tray.fresh b) F' ∧ Firm n (hlay n Tray.fresh b) 1 0 b [] ∧ (hlay n Tray.fresh b).t.left = -1 ∧ Turns F x y ∧ ∀ k, F' k → F k ∨ x.heap.size ≤ k := by
  obtain ⟨g1, g2⟩ := keep_free (a := 2) (b := b) (ms := layM b.length) (t := Tray.fresh) rfl
  have hcn : (cnt (Tray.fresh : Tray (List UInt8))).2 = false := decide_eq_false (nul_no 1)
  refine (lay_goes hb hF v b hi hv h64 hcn (by omega) (by show 0 ≤ 80000; omega)).mono ?_
  rintro e y ⟨rr, cd, rfl, ht, ⟨-, rfl, q, h, F', rfl, hs, hF'⟩ | ⟨h1, -⟩⟩
  · exact ⟨q, h, F', rfl, hs, firm_laid ⟨h64, hi.num.2⟩ hl g1, g2, ht, hF'⟩
  · exact absurd g1 h1
theorem Hs.lens (hs : Hs w x h p q n H F) (z : Int) : (H.t.read nul z).length = 128 := Ta.read_len hs.sys.tray z
/-- Opened, with power. -/
theorem opened_any (hb : Below w.heap.size w x) (hi : IsT x p n u F) (hF : ∀ k, F k → w.heap.size ≤ k) (hr : Ready n u a e hd f tail img r) (ha : a + 1 < 140737488355328) (hl : u.left = -1) :
    Calls Try.prog 45 #[ptr p] x fun ee y => ∃ q h F' G iv rv, ee = .returned (.tuple #[ptr h, iv, rv, .int .i64 0]) ∧ Hs w y h p q n (hopen n u) F' ∧ Firm n (hopen n u) (a + 1) hd img r ∧ (hopen n u).t.left = -1 ∧ (hopen n u).s = { ringS n f (e + 1) with tail := tail } ∧ Turns F x y ∧ (∀ k, F' k → F k ∨ x.heap.size ≤ k) ∧ x.heap.size ≤ q ∧ x.heap.size ≤ h ∧
      (∃ a' m c, iv = .slice a' m c) ∧ Stay (fun k => F' k ∨ k = q ∨ k = h) y (fun y => IsBytes y iv img) ∧ Recs x.heap.size G y rv (r.map Prod.fst) ∧ (∀ k, F' k ∨ k = q ∨ k = h → G k) ∧ ∀ k, rv.ownBlock = some k → ¬ F' k ∧ k ≠ q ∧ k ≠ h := by
  obtain ⟨s1, s2⟩ := set_free (ms := openM (cnt u).1) hl
  obtain ⟨o1, o2, o3, o4⟩ := hr.opened (fun z => Ta.read_len hi z) ha s1
  have hcn : (cnt u).2 = true := by rw [hr.marks.cnt]
  have hnr : ¬ Rot n (cnt u).1 := by rw [hr.marks.cnt]; exact hr.marks.sound hr.eb
  have hce : u.cache.length ≤ 80000 := by rw [hr.live.cache]; exact Nat.zero_le _
  refine (open_goes hb hF hi hr.marks.n64.1 hcn hnr hce).mono ?_
  rintro ee y ⟨rr, iv, rv, cd, rfl, ht, ⟨-, rfl, q, h, F', G, rfl, hs, hF', hq, hh, hiv, hst, hrc, hG, hro⟩ | ⟨h1, -⟩⟩
  · rw [o3] at hst
    rw [o2] at hrc
    exact ⟨q, h, F', G, iv, rv, rfl, hs, o1, s2, o4, ht, hF', hq, hh, hiv, hst, hrc, hG, hro⟩
  · exact absurd s1 h1
end
end Ho
end Go.Proofs.Ytkfmmdiflbnhgaa
