/-
  Layer 14, pure: a hoard stands firm; what is opened again, whatever was lost.
-/
import Derived.Test.YtkfmmdiflbnhgaaHoFirm
namespace Go.Proofs.Ytkfmmdiflbnhgaa
set_option maxRecDepth 100000
open Ta (nul Tray pad)
open Sp (S Live Torn rdS found parts append wrote)
namespace Ho
/-- What stands ahead of the ring: the mark that counts, an elder one or none, the image. -/
structure Mk (n : Nat) (t : Tray (List UInt8)) (a e f hd : Nat) (img : List UInt8) : Prop where
  fld : f ≤ 1
  fits : img.length ≤ qu n * 128
  bound : a < 140737488355328 ∧ e ≤ 4294967295 ∧ hd ≤ 1099511627776
  n64 : 64 ≤ n ∧ n ≤ 4096
  on : t.read nul ((a % 2 : Nat) : Int) = mkS [a, e, f, img.length, hd]
  off : IsMk (t.read nul (((a + 1) % 2 : Nat) : Int)) ((a + 1) % 2) → (mkO (t.read nul (((a + 1) % 2 : Nat) : Int))).getD 0 0 < a
  image : ∀ i, i < takes img → t.read nul ((2 + f * qu n + i : Nat) : Int) = pad (chk img i)
section
variable {n : Nat} {t t' u : Tray (List UInt8)} {a e f hd e' tail : Nat} {img img' b : List UInt8} {r : List (List UInt8 × Nat)} {s : S}
theorem Mk.qn (h : Mk n t a e f hd img) : qu n ≤ 1024 ∧ 2 + 2 * qu n + 2 ≤ n := by
  have h1 := h.n64
  have h2 : qu n = (n - 2) / 4 := rfl
  omega
theorem Mk.lt (h : Mk n t a e f hd img) : ∀ m ∈ [a, e, f, img.length, hd], m < 281474976710656 := by
  have h1 := h.bound
  have h2 := h.fld
  have h3 := h.fits
  have h4 := h.qn
  simp only [List.mem_cons, List.not_mem_nil, or_false]
  rintro m (rfl | rfl | rfl | rfl | rfl) <;> omega
theorem Mk.told (h : Mk n t a e f hd img) : mkO (mkS [a, e, f, img.length, hd]) = [a, e, f, img.length, hd] := mkO_mkS rfl h.lt
theorem Mk.cnt (h : Mk n t a e f hd img) : cnt t = ([a, e, f, img.length, hd], true) := by
  have hon := h.on
  have hoff := h.off
  have hto := h.told
  have hA : IsMk (t.read nul ((a % 2 : Nat) : Int)) (a % 2) := by
    rw [hon]
    exact ⟨by rw [hto], by rw [hto]; rfl⟩
  rcases Nat.mod_two_eq_zero_or_one a with h0 | h0
  · have h1 : (a + 1) % 2 = 1 := by omega
    rw [h0] at hA hon
    rw [h1] at hoff
    have hor : ¬ IsMk (t.read nul 1) 1 ∨ (mkO (t.read nul 1)).getD 0 0 < (mkO (t.read nul 0)).getD 0 0 := by
      by_cases hB : IsMk (t.read nul 1) 1
      · refine .inr ?_
        have := hoff hB
        show (mkO (t.read nul ((1 : Nat) : Int))).getD 0 0 < (mkO (t.read nul ((0 : Nat) : Int))).getD 0 0
        rw [hon, hto]
        exact this
      · exact .inl hB
    have hres : (mkO (t.read nul ((0 : Nat) : Int)), true) = ([a, e, f, img.length, hd], true) := by rw [hon, hto]
    unfold Ho.cnt
    exact (if_pos ⟨hA, hor⟩).trans hres
  · have h1 : (a + 1) % 2 = 0 := by omega
    rw [h0] at hA hon
    rw [h1] at hoff
    unfold Ho.cnt
    rw [if_neg, decide_eq_true (show IsMk (t.read nul 1) 1 from hA)]
    · show (mkO (t.read nul ((1 : Nat) : Int)), true) = _
      rw [hon, hto]
    · rintro ⟨hB, h3 | h3⟩
      · exact h3 hA
      · have h4 := hoff hB
        have h5 : (mkO (t.read nul ((1 : Nat) : Int))).getD 0 0 = a := by rw [hon, hto]; rfl
        have h6 : (mkO (t.read nul 1)).getD 0 0 = a := h5
        have h7 : (mkO (t.read nul ((0 : Nat) : Int))).getD 0 0 = (mkO (t.read nul 0)).getD 0 0 := rfl
        omega
theorem Mk.place (h : Mk n t a e f hd img) {i : Nat} (hi : i < takes img) : 2 + f * qu n + i < 2 + 2 * qu n := by
  have h1 := h.fits
  have h2 : f * qu n ≤ 1 * qu n := Nat.mul_le_mul_right _ h.fld
  unfold takes at hi
  omega
theorem Mk.same (h : Mk n t a e f hd img) (hs : ∀ k : Nat, k < 2 + 2 * qu n → t'.read nul (k : Int) = t.read nul (k : Int)) : Mk n t' a e f hd img := by
  refine ⟨h.fld, h.fits, h.bound, h.n64, ?_, ?_, fun i hi => ?_⟩
  · rw [hs _ (by omega)]; exact h.on
  · rw [hs _ (by omega)]; exact h.off
  · rw [hs _ (h.place hi)]; exact h.image i hi
/-- The next mark is set. -/
theorem Mk.step (h : Mk n t a e f hd img) (hon : t'.read nul (((a + 1) % 2 : Nat) : Int) = mkS [a + 1, e', f, img.length, hd]) (hs : ∀ k : Nat, k < 2 + 2 * qu n → k ≠ (a + 1) % 2 → t'.read nul (k : Int) = t.read nul (k : Int)) (ha : a + 1 < 140737488355328) (he : e' ≤ 4294967295) : Mk n t' (a + 1) e' f hd img := by
  have hp : (a + 1 + 1) % 2 = a % 2 := by omega
  refine ⟨h.fld, h.fits, ⟨ha, he, h.bound.2.2⟩, h.n64, hon, fun _ => ?_, fun i hi => ?_⟩
  · rw [hp, hs _ (by omega) (by omega), h.on, h.told]
    exact Nat.lt_succ_self a
  · rw [hs _ (h.place hi) (by omega)]; exact h.image i hi
/-- .. with a new image. -/
theorem Mk.new (h : Mk n t a e f hd img) (hb : img'.length ≤ qu n * 128) {hd' : Nat} (hh : hd' ≤ 1099511627776) (ha : a + 1 < 140737488355328) (hon : t'.read nul (((a + 1) % 2 : Nat) : Int) = mkS [a + 1, e, 1 - f, img'.length, hd']) (hs : t'.read nul ((a % 2 : Nat) : Int) = t.read nul ((a % 2 : Nat) : Int))
    (himg : ∀ i, i < takes img' → t'.read nul ((2 + (1 - f) * qu n + i : Nat) : Int) = pad (chk img' i)) : Mk n t' (a + 1) e (1 - f) hd' img' := by
  have hp : (a + 1 + 1) % 2 = a % 2 := by omega
  refine ⟨by omega, hb, ⟨ha, h.bound.2.1, hh⟩, h.n64, hon, fun _ => ?_, himg⟩
  rw [hp, hs, h.on, h.told]
  exact Nat.lt_succ_self a
theorem Mk.sound (h : Mk n t a e f hd img) (he : e + 1 ≤ 4294967295) : ¬ Rot n [a, e, f, img.length, hd] := by
  have h1 := h.bound
  have h2 := h.fld
  have h3 := h.fits
  show ¬ (1 < f ∨ qu n * 128 < img.length ∨ 4294967295 < e + 1 ∨ 1099511627776 < hd)
  omega
theorem live_moved (h : Live t s r) (hc : u.cache = []) (hr : ∀ k, rdS u s k = rdS t s k) : Live u s r := by
  have e : rdS u s = rdS t s := funext hr
  exact ⟨hc, h.dead, by rw [e]; exact h.inv, by rw [e]; exact h.calm, h.small⟩
theorem live_next (h : Live t s r) (hE : s.epoch + 1 ≤ 4294967295) (hc : u.cache = []) (hr : ∀ k, rdS u s k = rdS t s k) : found u ⟨s.first, s.count, s.head, s.head, s.epoch + 1, false⟩ = (r.map Prod.fst, s.tail) ∧ Live u ⟨s.first, s.count, s.head, s.tail, s.epoch + 1, false⟩ r := by
  obtain ⟨h1, h2, h3⟩ := h.again hE (rd := rdS u s) hr
  exact ⟨h1, hc, rfl, h2, h3, h.small⟩
/-- What lies on a tray behind a loss: it may be opened. -/
structure Ready (n : Nat) (u : Tray (List UInt8)) (a e f hd tail : Nat) (img : List UInt8) (r : List (List UInt8 × Nat)) : Prop where
  marks : Mk n u a e f hd img
  found : found u (ringS n hd (e + 1)) = (r.map Prod.fst, tail)
  live : Live u { ringS n hd (e + 1) with tail := tail } r
  eb : e + 1 ≤ 4294967295
/-- A hoard of which nothing is on its way. -/
structure Firm (n : Nat) (H : Hd) (a f : Nat) (img : List UInt8) (r : List (List UInt8 × Nat)) : Prop where
  live : Live H.t H.s r
  marks : Mk n H.t a H.s.epoch f H.s.head img
  ms : H.m = [a, H.s.epoch, f, img.length, H.s.head]
  alive : H.dead = false ∧ H.torn = false
  ring : H.s.first = 2 + 2 * qu n ∧ H.s.count = n - (2 + 2 * qu n)
theorem rd_ring (s : S) (h : s.first = 2 + 2 * qu n) (k : Nat) : ∃ z : Nat, 2 + 2 * qu n ≤ z ∧ ∀ t : Tray (List UInt8), rdS t s k = t.read nul (z : Int) := ⟨s.first + k % s.count, by omega, fun _ => rfl⟩
theorem Firm.ready {H : Hd} (h : Firm n H a f img r) (he : H.s.epoch + 1 ≤ 4294967295) (ch : List Bool) : Ready n (H.t.lose ch) a H.s.epoch f H.s.head H.s.tail img r := by
  obtain ⟨g1, g2⟩ := live_next h.live he (u := H.t.lose ch) rfl fun k => lose_same h.live.cache ch _
  rw [h.ring.1, h.ring.2] at g1 g2
  exact ⟨h.marks.same fun k _ => lose_same h.live.cache ch _, g1, g2, he⟩
theorem Ready.open_m (h : Ready n u a e f hd tail img r) : openM (Ho.cnt u).1 = [a + 1, e + 1, f, img.length, hd] := by rw [h.marks.cnt]; rfl
/-- It is opened. -/
theorem Ready.opened (h : Ready n u a e f hd tail img r) (hl : ∀ z, (u.read nul z).length = 128) (ha : a + 1 < 140737488355328) (hok : (setT u (openM (Ho.cnt u).1)).2 = 0) :
    Firm n (hopen n u) (a + 1) f img r ∧ (Sp.found u (ringS n ((Ho.cnt u).1.getD 4 0) ((Ho.cnt u).1.getD 1 0 + 1))).1 = r.map Prod.fst ∧ imgT (hopen n u).t (2 + (Ho.cnt u).1.getD 2 0 * qu n) ((Ho.cnt u).1.getD 3 0) = img ∧ (hopen n u).s = { ringS n hd (e + 1) with tail := tail } := by
  have ho := h.open_m
  rw [ho] at hok
  obtain ⟨s1, s2⟩ := set_good hok
  have hs : (hopen n u).s = { ringS n hd (e + 1) with tail := tail } := by
    unfold hopen ringF
    rw [h.marks.cnt]
    show { ringS n hd (e + 1) with tail := (Sp.found u (ringS n hd (e + 1))).2 } = _
    rw [h.found]
  have ht : (hopen n u).t = (setT u [a + 1, e + 1, f, img.length, hd]).1 := by
    unfold hopen
    rw [ho]
  have hrd : ∀ k : Nat, k ≠ (a + 1) % 2 → (hopen n u).t.read nul (k : Int) = u.read nul (k : Int) := fun k hk => by
    rw [ht, s2, if_neg (by show ¬ (((a + 1) % 2 : Nat) : Int) = (k : Int); omega)]
  have hmk : Mk n (hopen n u).t (a + 1) (e + 1) f hd img := h.marks.step (by rw [ht, s2]; exact if_pos rfl) (fun k _ hk => hrd k hk) ha h.eb
  have hlv : Live (hopen n u).t (hopen n u).s r := by
    rw [hs]
    refine live_moved h.live (by rw [ht]; exact s1) fun k => ?_
    obtain ⟨z, hz, hzz⟩ := rd_ring { ringS n hd (e + 1) with tail := tail } rfl k
    rw [hzz, hzz, hrd z (by omega)]
  refine ⟨⟨hlv, by rw [hs]; exact hmk, ?_, ⟨rfl, rfl⟩, by rw [hs]; exact ⟨rfl, rfl⟩⟩, ?_, ?_, hs⟩
  · rw [hs]
    exact ho
  · rw [h.marks.cnt]
    show (Sp.found u (ringS n hd (e + 1))).1 = _
    rw [h.found]
  · rw [h.marks.cnt]
    show imgT (hopen n u).t (2 + f * qu n) img.length = img
    refine img_is (fun z => ?_) fun i hi => hmk.image i hi
    rw [ht, s2]
    split
    · exact mkS_len rfl
    · exact hl z
/-- The power went while it was opened. -/
theorem Ready.half (h : Ready n u a e f hd tail img r) (ha : a + 1 < 140737488355328) (he : e + 2 ≤ 4294967295) (hbad : (setT u (openM (Ho.cnt u).1)).2 ≠ 0) (ch : List Bool) :
    Ready n ((setT u (openM (Ho.cnt u).1)).1.lose ch) a e f hd tail img r ∨ Ready n ((setT u (openM (Ho.cnt u).1)).1.lose ch) (a + 1) (e + 1) f hd tail img r := by
  have ho := h.open_m
  rw [ho] at hbad ⊢
  obtain ⟨s1, s2⟩ := set_bad h.live.cache hbad
  generalize (setT u [a + 1, e + 1, f, img.length, hd]).1 = U at *
  have hoff : ∀ k : Nat, k ≠ (a + 1) % 2 → (U.lose ch).read nul (k : Int) = u.read nul (k : Int) := fun k hk => lose_off (P := fun z => z = (((a + 1) % 2 : Nat) : Int)) s1 h.live.cache (fun x hx => by
    rcases s2 with s2 | s2
    · rw [s2] at hx; cases hx
    · rw [s2, List.mem_singleton] at hx
      rw [hx]
      rfl) ch (by omega)
  have hring : ∀ k, rdS (U.lose ch) { ringS n hd (e + 1) with tail := tail } k = rdS u { ringS n hd (e + 1) with tail := tail } k := fun k => by
    obtain ⟨z, hz, hzz⟩ := rd_ring { ringS n hd (e + 1) with tail := tail } rfl k
    rw [hzz, hzz, hoff z (by omega)]
  have hpl : (U.lose ch).read nul (((a + 1) % 2 : Nat) : Int) = u.read nul (((a + 1) % 2 : Nat) : Int) ∨ (U.lose ch).read nul (((a + 1) % 2 : Nat) : Int) = mkS [a + 1, e + 1, f, img.length, hd] := by
    have hwas : U.was nul (((a + 1) % 2 : Nat) : Int) = u.read nul (((a + 1) % 2 : Nat) : Int) := by
      unfold Ta.Tray.was Ta.Tray.read
      rw [s1, h.live.cache, List.append_nil]
    rw [Ta.Tray.read_lose, hwas]
    rcases s2 with s2 | s2
    · rw [s2, show Ta.pick ([] : List (Int × List UInt8)) ch = [] by cases ch <;> rfl]
      exact .inl rfl
    · rw [s2]
      rcases Ta.last_or (Ta.pick [((([a + 1, e + 1, f, img.length, hd].getD 0 0 % 2 : Nat) : Int), mkS [a + 1, e + 1, f, img.length, hd])] ch) (((a + 1) % 2 : Nat) : Int) (u.read nul (((a + 1) % 2 : Nat) : Int)) with h1 | ⟨x, hx, h1, h2⟩
      · exact .inl h1
      · have h3 := Ta.pick_mem hx
        rw [List.mem_singleton] at h3
        rw [h3] at h2
        exact .inr h2.symm
  rcases hpl with hpl | hpl
  · refine .inl ⟨h.marks.same fun k _ => ?_, ?_, live_moved h.live rfl hring, h.eb⟩
    · by_cases hk : k = (a + 1) % 2
      · rw [hk]; exact hpl
      · exact hoff k hk
    · have : Sp.found (U.lose ch) (ringS n hd (e + 1)) = Sp.found u (ringS n hd (e + 1)) := by
        unfold Sp.found
        rw [show rdS (U.lose ch) (ringS n hd (e + 1)) = rdS u (ringS n hd (e + 1)) from funext hring]
      rw [this]
      exact h.found
  · obtain ⟨g1, g2⟩ := live_next h.live (u := U.lose ch) he rfl hring
    exact .inr ⟨h.marks.step hpl (fun k _ hk => hoff k hk) ha h.eb, g1, g2, he⟩
end
end Ho
end Go.Proofs.Ytkfmmdiflbnhgaa
