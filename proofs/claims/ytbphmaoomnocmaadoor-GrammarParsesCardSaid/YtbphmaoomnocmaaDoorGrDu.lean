/-
  Layer 7's document: Union at any depth; end.
-/
import Derived.Test.YtbphmaoomnocmaaDoorGrDm
namespace Go.Proofs.YtbphmaoomnocmaaDoor
open Go.RowKit
namespace Gr
open Knot (Turns NewRow)
open Tr (Nd none0 node4 own_slice Box4)
open Sg (Tok kt TokAt txt)

theorem dunion_at {c : DCtx} : ∀ d o, o + d = 8 → DPart nodeE c o 22 (unionOf (brk d)) := by
  intro d
  induction d with
  | zero =>
    intro o ho
    have hb := brk_fine 0
    have hat : DPart nodeE c o 93 (atomOf (brk 0)) := fun s x h hs => datom_any (br := brk 0) (.inl ⟨by omega, fun s => rfl⟩) h hs
    have hless : DPart nodeE c o 70 (lessOf (brk 0)) := fun s x h hs => dless_any hb hat h hs
    have hmeet : DPart nodeE c o 48 (meetOf (brk 0)) := fun s x h hs => dmeet_any (less_fine hb) hless h hs
    exact fun s x h hs => dunion_any (meet_fine hb) hmeet h hs
  | succ d ih =>
    intro o ho
    have hb := brk_fine (d + 1)
    have hat : DPart nodeE c o 93 (atomOf (brk (d + 1))) := fun s x h hs => datom_any (br := brk (d + 1)) (.inr ⟨by omega, unionOf (brk d), union_fine (brk_fine d), fun s => rfl, ih (o + 1) (by omega)⟩) h hs
    have hless : DPart nodeE c o 70 (lessOf (brk (d + 1))) := fun s x h hs => dless_any hb hat h hs
    have hmeet : DPart nodeE c o 48 (meetOf (brk (d + 1))) := fun s x h hs => dmeet_any (less_fine hb) hless h hs
    exact fun s x h hs => dunion_any (meet_fine hb) hmeet h hs
theorem place_at {c : DCtx} {s : St} {e : Nat × Nat} (h : atN c s < c.L.length) : place c.L s e = c.L[atN c s].at' := by
  unfold place
  rw [show c.L.length - s.rest.length = atN c s from rfl, List.drop_eq_getElem_cons h]
theorem place_end {c : DCtx} {s : St} {e : Nat × Nat} (h : ¬ atN c s < c.L.length) : place c.L s e = e := by
  unfold place
  rw [show c.L.length - s.rest.length = atN c s from rfl, List.drop_eq_nil_iff.2 (by omega)]
/-- What is wrong behind what was read, and where. -/
def ends (c : DCtx) (s : St) (e : Nat × Nat) : (Nat × Nat) × Nat := if (fin s).err = 0 then ((0, 0), 0) else (place c.L (fin s) e, (fin s).err)

set_option maxHeartbeats 4000000 in
set_option maxRecDepth 100000 in
theorem dend_any {c : DCtx} {o : Nat} {s : St} {x : World} (h : DEnv c x) (hs : s.rest <:+ kt c.L) (ep : Nat × Nat) :
    Calls Tryd.prog 23 #[stV c o s, .int .i64 (ep.1 : Nat), .int .i64 (ep.2 : Nat)] x fun e y => e = .returned (.tuple #[.int .i64 ((ends c s ep).1.1 : Nat), .int .i64 ((ends c s ep).1.2 : Nat), .int .i64 ((ends c s ep).2 : Nat)]) ∧ Below x.heap.size x y := by
  have B0 := C4.new x tSt (.slice c.ao c.L.length c.cap) (.int .i64 (atN c s : Nat)) (.int .i64 (o : Nat)) (.int .i64 (s.err : Nat))
  have al : Below x.heap.size x (x.alloc (.cells #[.slice c.ao c.L.length c.cap, .int .i64 (atN c s : Nat), .int .i64 (o : Nat), .int .i64 (s.err : Nat)] tSt)) := (Below.refl _ _).alloc (Nat.le_refl _) _
  obtain ⟨c0, c1, c2, c3⟩ := B0.cells
  obtain ⟨u0, u1, u2, u3⟩ := B0.free
  have HB := Lib.hid al
  show Calls _ _ #[.agg #[.slice c.ao c.L.length c.cap, .int .i64 (atN c s : Nat), .int .i64 (o : Nat), .int .i64 (s.err : Nat)], _, _] _ _
  by_cases he : s.err = 0
  · have e0 : ((s.err : Int) == 0) = true := by simp [he]
    by_cases hlt : atN c s < c.L.length
    · have hx : next s ≠ 0 := by
        have h1 := dlen hs
        cases hr : s.rest with
        | nil => have := at_end (c := c) hr; omega
        | cons t r =>
          obtain ⟨hj, ht⟩ := dhead hs hr
          rw [next, if_pos he, hr]
          show t.1 ≠ 0
          rw [← ht]
          exact h.kinds _ (List.getElem_mem hj)
      have hf : fin s = fail s 11 := by rw [fin, if_pos hx]
      have h11 : (fail s 11).err = 11 := by unfold fail; rw [if_pos he]
      have hp : place c.L (fail s 11) ep = place c.L s ep := by unfold place; rw [fail_rest]
      have hE : ends c s ep = (c.L[atN c s].at', 11) := by
        rw [ends, hf, if_neg (fail_err (by decide)), hp, place_at hlt, h11]
      rw [hE]
      obtain ⟨hao, hG, hT⟩ := h.toks _ hlt
      have B1 := C4.new x tSt (.slice c.ao c.L.length c.cap) (.int .i64 (atN c s : Nat)) (.int .i64 (o : Nat)) (.int .i64 11)
      have al1 : Below x.heap.size x (x.alloc (.cells #[.slice c.ao c.L.length c.cap, .int .i64 (atN c s : Nat), .int .i64 (o : Nat), .int .i64 11] tSt)) := (Below.refl _ _).alloc (Nat.le_refl _) _
      obtain ⟨d0, d1, d2, d3⟩ := B1.cells
      obtain ⟨-, -, k2, k3⟩ := hT.on hG al1
      have HB2 := Lib.hid al1
      have hix : ∀ W, (Instr.indexAt 60 (.slice c.ao c.L.length c.cap) (.int .i64 (atN c s : Nat))).run Tryd.prog W = .ok (.pointer (some ⟨c.G, atN c s * 4, none⟩)) W := by rw [hao]; exact index_dtok hlt
      have e2 : decide ((atN c s : Int) < (c.L.length : Int)) = true := by simp; omega
      clear h hs B0 B1 al al1 hx hf hE hao hG hT he h11 hp
      generalize c.L[atN c s].at' = pl at *
      obtain ⟨p1, p2⟩ := pl
      simp only at k2 k3
      go_enter Tryd.func23, Tryd.ntmps23
      go_wp2_with fail
      go_quiet (fail)
      go_wp2_with fail
      exact bodyPost_ret (v := .tuple #[.int .i64 (p1 : Nat), .int .i64 (p2 : Nat), .int .i64 11]) (by simp [results, Tryd.results23, go_sem]) rfl ⟨rfl, below_drewN HB2.out _⟩
    · have hr : next s = 0 := by
        have h1 := dlen hs
        rw [next, if_pos he]
        cases hr : s.rest with
        | nil => rfl
        | cons t r => rw [hr] at h1; unfold atN at hlt; rw [hr] at hlt; simp only [List.length_cons] at *; omega
      have hE : ends c s ep = ((0, 0), 0) := by rw [ends, show fin s = s by rw [fin, if_neg (by rw [hr]; simp)], if_pos he]
      rw [hE]
      have e2 : decide ((atN c s : Int) < (c.L.length : Int)) = false := by simp; omega
      clear h hs B0 al hr hE he u0 u1 u2 u3
      go_enter Tryd.func23, Tryd.ntmps23
      go_wp2_with fail
      exact bodyPost_ret (v := .tuple #[.int .i64 0, .int .i64 0, .int .i64 0]) (by simp [results, Tryd.results23, go_sem]) rfl ⟨rfl, HB.out⟩
  · have e0 : ((s.err : Int) == 0) = false := by simp; omega
    have hf : fin s = s := by rw [fin, if_neg (fun e => e (next_bad he))]
    by_cases hlt : atN c s < c.L.length
    · have hE : ends c s ep = (c.L[atN c s].at', s.err) := by rw [ends, hf, if_neg he, place_at hlt]
      rw [hE]
      obtain ⟨hao, hG, hT⟩ := h.toks _ hlt
      obtain ⟨-, -, k2, k3⟩ := hT.on hG al
      have hix : ∀ W, (Instr.indexAt 60 (.slice c.ao c.L.length c.cap) (.int .i64 (atN c s : Nat))).run Tryd.prog W = .ok (.pointer (some ⟨c.G, atN c s * 4, none⟩)) W := by rw [hao]; exact index_dtok hlt
      have e2 : decide ((atN c s : Int) < (c.L.length : Int)) = true := by simp; omega
      clear h hs B0 al hf hE hao hG hT he u0 u1 u2 u3
      generalize c.L[atN c s].at' = pl at *
      obtain ⟨p1, p2⟩ := pl
      simp only at k2 k3
      go_enter Tryd.func23, Tryd.ntmps23
      go_wp2_with fail
      go_quiet (fail)
      go_wp2_with fail
      exact bodyPost_ret (v := .tuple #[.int .i64 (p1 : Nat), .int .i64 (p2 : Nat), .int .i64 (s.err : Nat)]) (by simp [results, Tryd.results23, go_sem]) rfl ⟨rfl, below_drewN HB.out _⟩
    · have hE : ends c s ep = (ep, s.err) := by rw [ends, hf, if_neg he, place_end hlt]
      rw [hE]
      have e2 : decide ((atN c s : Int) < (c.L.length : Int)) = false := by simp; omega
      clear h hs B0 al hf hE he u0 u1 u2 u3
      go_enter Tryd.func23, Tryd.ntmps23
      go_wp2_with fail
      go_quiet (fail)
      go_wp2_with fail
      exact bodyPost_ret (v := .tuple #[.int .i64 (ep.1 : Nat), .int .i64 (ep.2 : Nat), .int .i64 (s.err : Nat)]) (by simp [results, Tryd.results23, go_sem]) rfl ⟨rfl, below_drewN HB.out _⟩
end Gr
end Go.Proofs.YtbphmaoomnocmaaDoor
