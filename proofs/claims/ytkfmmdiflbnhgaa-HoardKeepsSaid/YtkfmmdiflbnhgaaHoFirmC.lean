/-
  Layer 14, pure: what a firm hoard's calls come to.
-/
import Derived.Test.YtkfmmdiflbnhgaaHoFirmB
namespace Go.Proofs.Ytkfmmdiflbnhgaa
set_option maxRecDepth 100000
open Ta (nul Tray pad)
open Sp (S Live Torn rdS found parts append wrote wr wr_writes wr_read)
namespace Ho
section
variable {n : Nat} {t t' u : Tray (List UInt8)} {a e f hd e' tail : Nat} {img img' b : List UInt8} {r : List (List UInt8 × Nat)} {s : S} {H : Hd}
theorem wrote_off (hc : t.cache = []) (o : Nat) : ((wrote s b o t).2 = true → ∀ k, (∀ x, ((s.at x : Nat) : Int) ≠ k) → (wrote s b o t).1.read nul k = t.read nul k) ∧ ((wrote s b o t).2 = false → (wrote s b o t).1.kept = t.kept ∧ ∀ x ∈ (wrote s b o t).1.cache, ∃ y, x.1 = ((s.at y : Nat) : Int)) := by
  obtain ⟨w1, w2⟩ := wr_writes (s := s) (b := b) (o := o) o 0 t
  have w3 := wr_read (s := s) (b := b) (o := o) o 0 t
  have hwc : ∀ x ∈ (wr s b o o 0 t).1.cache, ∃ y, x.1 = ((s.at y : Nat) : Int) := fun x hx => by
    rcases w2 x hx with h1 | ⟨i, -, h2, h3⟩
    · rw [hc] at h1; cases h1
    · exact ⟨s.tail + i, by rw [h3]⟩
  unfold wrote
  simp only
  generalize wr s b o o 0 t = W at *
  by_cases hW : W.2 = true
  · rw [if_pos hW]
    by_cases h0 : W.1.left = 0
    · rw [if_pos h0]
      exact ⟨fun h => (by cases h), fun _ => ⟨w1, hwc⟩⟩
    · rw [if_neg h0]
      exact ⟨fun _ k hk => (by show W.1.flush.read nul k = _; rw [Ta.Tray.flush_read]; exact w3 k fun i _ _ => hk _), fun h => (by cases h)⟩
  · rw [if_neg hW]
    exact ⟨fun h => absurd h hW, fun _ => ⟨w1, hwc⟩⟩
/-- A record is kept. -/
theorem Firm.keep (h : Firm n H a f img r) (hb : b.length ≤ 60000) (hl : ∀ k, (rdS (append H.s b H.t).1 H.s k).length = 128) :
    hkeep H b = (H, 3) ∨ ((hkeep H b).2 = 0 ∧ Firm n (hkeep H b).1 a f img (r ++ [(b, H.s.epoch)]) ∧ (hkeep H b).1.s = { H.s with tail := H.s.tail + parts b.length }) ∨
      ((hkeep H b).2 = 20 ∧ ∀ ch, H.s.epoch + 1 ≤ 4294967295 → (∀ k, (rdS ((hkeep H b).1.t.lose ch) H.s k).length = 128) → Ready n ((hkeep H b).1.t.lose ch) a H.s.epoch f H.s.head H.s.tail img r ∨ Ready n ((hkeep H b).1.t.lose ch) a H.s.epoch f H.s.head (H.s.tail + parts b.length) img (r ++ [(b, H.s.epoch)])) := by
  have e : hkeep H b = ({ H with t := (append H.s b H.t).1, s := (append H.s b H.t).2.1, dead := H.dead || decide ((append H.s b H.t).2.2 = 20) }, (append H.s b H.t).2.2) := if_neg (by rw [h.alive.2]; decide)
  have hatk : ∀ (k : Nat), k < 2 + 2 * qu n → ∀ x, ((H.s.at x : Nat) : Int) ≠ (k : Int) := fun k hk x hx => by
    have h1 := h.ring.1
    have h2 : H.s.at x = H.s.first + x % H.s.count := rfl
    omega
  obtain ⟨o1, o2⟩ := wrote_off (s := H.s) (b := b) h.live.cache (parts b.length)
  have ht1 : (append H.s b H.t).2.2 = 0 → (append H.s b H.t).1 = (wrote H.s b (parts b.length) H.t).1 ∧ (wrote H.s b (parts b.length) H.t).2 = true := by
    unfold append
    split
    · intro h; cases h
    · split
      · intro h; cases h
      · split
        · intro h; cases h
        · split
          · rename_i hw; exact fun _ => ⟨rfl, hw⟩
          · intro h; cases h
  have ht2 : (append H.s b H.t).2.2 = 20 → (append H.s b H.t).1 = (wrote H.s b (parts b.length) H.t).1 ∧ (wrote H.s b (parts b.length) H.t).2 = false := by
    unfold append
    split
    · intro h; cases h
    · split
      · intro h; cases h
      · split
        · rename_i hd; rw [h.live.dead] at hd; cases hd
        · split
          · intro h; cases h
          · rename_i hw; exact fun _ => ⟨rfl, by simpa using hw⟩
  rcases h.live.cases hb hl with h1 | ⟨h1, h2⟩ | ⟨h1, h2⟩
  · refine .inl ?_
    rw [e, h1]
    cases H
    simp
  · obtain ⟨h3, h4⟩ := Prod.ext_iff.1 h1
    simp only at h3 h4
    obtain ⟨q1, q2⟩ := ht1 h4
    refine .inr (.inl ?_)
    rw [e]
    refine ⟨h4, ⟨?_, ?_, ?_, ⟨?_, h.alive.2⟩, ?_⟩, h3⟩
    · show Live (append H.s b H.t).1 (append H.s b H.t).2.1 _
      rw [h3]
      exact h2
    · show Mk n (append H.s b H.t).1 a (append H.s b H.t).2.1.epoch f (append H.s b H.t).2.1.head img
      rw [h3]
      exact h.marks.same fun k hk => by rw [q1]; exact o1 q2 k (hatk k hk)
    · show H.m = [a, (append H.s b H.t).2.1.epoch, f, img.length, (append H.s b H.t).2.1.head]
      rw [h3]
      exact h.ms
    · show (H.dead || decide ((append H.s b H.t).2.2 = 20)) = false
      rw [h4, h.alive.1]
      rfl
    · show (append H.s b H.t).2.1.first = _ ∧ (append H.s b H.t).2.1.count = _
      rw [h3]
      exact h.ring
  · obtain ⟨h3, h4⟩ := Prod.ext_iff.1 h1
    simp only at h3 h4
    obtain ⟨q1, q2⟩ := ht2 h4
    obtain ⟨q3, q4⟩ := o2 q2
    refine .inr (.inr ?_)
    rw [e]
    refine ⟨h4, fun ch hE hll => ?_⟩
    have hm : Mk n ((append H.s b H.t).1.lose ch) a H.s.epoch f H.s.head img := h.marks.same fun k hk => by
      rw [q1]
      exact lose_off (P := fun z => ∃ y, z = ((H.s.at y : Nat) : Int)) q3 h.live.cache q4 ch fun ⟨y, hy⟩ => hatk k hk y hy.symm
    rcases h2.reopen hE ch hll with ⟨g1, g2⟩ | ⟨g1, g2⟩
    · simp only [h.ring.1, h.ring.2] at g1 g2
      exact .inl ⟨hm, g1, g2, hE⟩
    · simp only [h.ring.1, h.ring.2] at g1 g2
      exact .inr ⟨hm, g1, g2, hE⟩
/-- A new image is kept. -/
theorem Firm.image (h : Firm n H a f img r) (hh : H.s.tail ≤ 1099511627776) (ha : a + 1 < 140737488355328) :
    himage n H b = (H, 3) ∨ ((himage n H b).2 = 0 ∧ Firm n (himage n H b).1 (a + 1) (1 - f) b [] ∧ (himage n H b).1.s = { H.s with head := H.s.tail }) ∨
      ((himage n H b).2 = 20 ∧ ∀ ch, H.s.epoch + 1 ≤ 4294967295 → Ready n ((himage n H b).1.t.lose ch) a H.s.epoch f H.s.head H.s.tail img r ∨ Ready n ((himage n H b).1.t.lose ch) (a + 1) H.s.epoch (1 - f) H.s.tail H.s.tail b []) := by
  have hqn := h.marks.qn
  have hcn : H.s.count ≤ 4096 := h.live.small.2
  have hcut := h.live.cut (by omega)
  by_cases hlong : qu n * 128 < b.length
  · exact .inl (if_pos hlong)
  · have hms : nextM H b.length = [a + 1, H.s.epoch, 1 - f, b.length, H.s.tail] := by unfold nextM; rw [h.ms]; rfl
    have hK : imgK n H b = keepT (2 + (1 - f) * qu n) b [a + 1, H.s.epoch, 1 - f, b.length, H.s.tail] H.t := by
      unfold imgK
      rw [hms, h.ms]
      rfl
    have e : himage n H b = if (imgK n H b).2 = 0 then (⟨(imgK n H b).1, nextM H b.length, { H.s with head := H.s.tail }, H.torn, H.dead⟩, 0) else ({ H with t := (imgK n H b).1, torn := true, dead := true }, 20) := by
      rw [himage, if_neg hlong, if_neg (by rw [h.alive.1]; decide)]
    rw [hms, hK] at e
    have hfl := h.marks.fld
    -- the old field, and the ring, lie apart from the new one
    have hnew : ∀ i, i < takes b → 2 + (1 - f) * qu n + i < 2 + 2 * qu n := fun i hi => by
      have h2 : (1 - f) * qu n ≤ 1 * qu n := Nat.mul_le_mul_right _ (by omega)
      unfold takes at hi
      omega
    have hapart : ∀ i j, i < takes b → j < takes img → 2 + (1 - f) * qu n + i ≠ 2 + f * qu n + j := fun i j hi hj => by
      have h1 := h.marks.fits
      unfold takes at hi hj
      rcases (show f = 0 ∨ f = 1 by omega) with rfl | rfl <;> omega
    by_cases hok : (keepT (2 + (1 - f) * qu n) b [a + 1, H.s.epoch, 1 - f, b.length, H.s.tail] H.t).2 = 0
    · rw [if_pos hok] at e
      obtain ⟨k1, k2, k3, k4⟩ := keep_good (by omega) hok
      generalize keepT (2 + (1 - f) * qu n) b [a + 1, H.s.epoch, 1 - f, b.length, H.s.tail] H.t = K at *
      refine .inr (.inl ?_)
      rw [e]
      refine ⟨rfl, ⟨?_, ?_, rfl, h.alive, h.ring⟩, rfl⟩
      · refine live_moved hcut k1 fun k => ?_
        obtain ⟨z, hz, hzz⟩ := rd_ring { H.s with head := H.s.tail } h.ring.1 k
        rw [hzz, hzz]
        exact k4 z (by show (z : Int) ≠ (((a + 1) % 2 : Nat) : Int); omega) fun i hi hq => by have := hnew i hi; omega
      · exact h.marks.new (by omega) hh ha k2 (k4 _ (by show ((a % 2 : Nat) : Int) ≠ (((a + 1) % 2 : Nat) : Int); omega) fun i hi hq => by omega) k3
    · rw [if_neg hok] at e
      have kb := keep_bad (b := b) (ms := [a + 1, H.s.epoch, 1 - f, b.length, H.s.tail]) (a := 2 + (1 - f) * qu n) (by omega) h.live.cache hok
      generalize keepT (2 + (1 - f) * qu n) b [a + 1, H.s.epoch, 1 - f, b.length, H.s.tail] H.t = K at *
      refine .inr (.inr ?_)
      rw [e]
      refine ⟨rfl, fun ch hE => ?_⟩
      obtain ⟨k1, k2⟩ := kb ch
      show Ready n (K.1.lose ch) _ _ _ _ _ _ _ ∨ Ready n (K.1.lose ch) _ _ _ _ _ _ _
      have hoff : ∀ z : Nat, z ≠ (a + 1) % 2 → (∀ i, i < takes b → 2 + (1 - f) * qu n + i ≠ z) → (K.1.lose ch).read nul (z : Int) = H.t.read nul (z : Int) := fun z h1 h2 => k1 z (by show (z : Int) ≠ (((a + 1) % 2 : Nat) : Int); omega) fun i hi hq => h2 i hi (by omega)
      have hring : ∀ s' : S, s'.first = H.s.first → ∀ k, rdS (K.1.lose ch) s' k = rdS H.t s' k := fun s' hs' k => by
        obtain ⟨z, hz, hzz⟩ := rd_ring s' (hs'.trans h.ring.1) k
        rw [hzz, hzz]
        exact hoff z (by omega) fun i hi hq => by have := hnew i hi; omega
      rcases k2 with k2 | ⟨k2, k3⟩
      · left
        obtain ⟨g1, g2⟩ := live_next h.live hE (u := K.1.lose ch) rfl (hring H.s rfl)
        simp only [h.ring.1, h.ring.2] at g1 g2
        refine ⟨⟨h.marks.fld, h.marks.fits, h.marks.bound, h.marks.n64, ?_, ?_, fun i hi => ?_⟩, g1, g2, hE⟩
        · rw [hoff _ (by omega) fun i hi hq => by omega]
          exact h.marks.on
        · have k2' : (K.1.lose ch).read nul (((a + 1) % 2 : Nat) : Int) = H.t.read nul (((a + 1) % 2 : Nat) : Int) := k2
          rw [k2']
          exact h.marks.off
        · rw [hoff _ (by omega) fun j hj hq => hapart j i hj hi hq]
          exact h.marks.image i hi
      · right
        obtain ⟨g1, g2⟩ := live_next hcut hE (u := K.1.lose ch) rfl (hring _ rfl)
        simp only [h.ring.1, h.ring.2] at g1 g2
        exact ⟨h.marks.new (by omega) hh ha k2 (hoff _ (by omega) fun i hi hq => by omega) k3, g1, g2, hE⟩
theorem nul_no (k : Nat) : ¬ IsMk nul k := fun h => by
  have h1 := congrArg List.head? h.1
  rw [show (mkS (mkO nul)).head? = some 77 from rfl] at h1
  cases h1
/-- A hoard that is laid upon a fresh tray. -/
theorem firm_laid (h64 : 64 ≤ n ∧ n ≤ 4096) (hb : b.length ≤ qu n * 128) (hok : (keepT 2 b (layM b.length) Tray.fresh).2 = 0) : Firm n (hlay n Tray.fresh b) 1 0 b [] := by
  have hqq : qu n = (n - 2) / 4 := rfl
  have hfo : (Sp.found Tray.fresh (ringS n 0 1)).2 = 0 := by rw [Sp.found_fresh]; rfl
  have hs : (hlay n Tray.fresh b).s = ringS n 0 1 := by
    show { ringS n 0 1 with tail := (Sp.found Tray.fresh (ringS n 0 1)).2 } = _
    rw [hfo]
    rfl
  obtain ⟨k1, k2, k3, k4⟩ := keep_good (a := 2) (Nat.le_refl _) hok
  have hz : ∀ z : Int, (Tray.fresh : Tray (List UInt8)).read nul z = nul := fun z => rfl
  have hnew : ∀ i, i < takes b → 2 + i < 2 + 2 * qu n := fun i hi => by unfold takes at hi; omega
  have hrd : ∀ k, rdS (keepT 2 b (layM b.length) Tray.fresh).1 (ringS n 0 1) k = nul := fun k => by
    obtain ⟨z, hz1, hzz⟩ := rd_ring (n := n) (ringS n 0 1) rfl k
    rw [hzz, k4 z (by show (z : Int) ≠ ((1 : Nat) : Int); omega) fun i hi hq => by have := hnew i hi; omega]
    exact hz _
  obtain ⟨i1, i2⟩ := Sp.inv_fresh (ringS n 0 1).count (by show n - _ ≤ 4096; omega) hrd
  refine ⟨by rw [hs]; exact ⟨k1, rfl, i1, i2, by show 0 < n - (2 + 2 * qu n); omega, by show n - _ ≤ 4096; omega⟩, ?_, by rw [hs]; rfl, ⟨rfl, rfl⟩, by rw [hs]; exact ⟨rfl, rfl⟩⟩
  rw [hs]
  refine ⟨by omega, hb, ⟨by omega, by show 1 ≤ 4294967295; omega, by show 0 ≤ 1099511627776; omega⟩, h64, k2, fun h => ?_, fun i hi => ?_⟩
  · have : (hlay n Tray.fresh b).t.read nul (((1 + 1) % 2 : Nat) : Int) = nul := by
      show (keepT 2 b (layM b.length) Tray.fresh).1.read nul ((0 : Nat) : Int) = _
      rw [k4 _ (by show ((0 : Nat) : Int) ≠ ((1 : Nat) : Int); omega) fun i hi hq => by omega]
      exact hz _
    rw [this] at h
    exact absurd h (nul_no _)
  · have := k3 i hi
    rwa [show 2 + 0 * qu n + i = 2 + i by omega]
end
end Ho
end Go.Proofs.Ytkfmmdiflbnhgaa
