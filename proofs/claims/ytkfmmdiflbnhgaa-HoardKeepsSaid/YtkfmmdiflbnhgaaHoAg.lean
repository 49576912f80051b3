/-
  Layer 14: what lies ready is opened again and again, under any power.
-/
import Derived.Test.YtkfmmdiflbnhgaaHoSt
namespace Go.Proofs.Ytkfmmdiflbnhgaa
set_option maxRecDepth 100000
open Go.RowKit
open Knot (Turns)
open Ta (IsBytes IsFlags Stay sec nul ptr IsT C5 Tray Made)
open Sp (S SpB found Recs IsRecs Live rdS parts append)
namespace Ho
section
variable {n : Nat} {u : Tray (List UInt8)} {a e f hd tail : Nat} {img : List UInt8} {r : List (List UInt8 × Nat)} {ms : List Nat}
theorem lose_done {t : Tray (List UInt8)} (ch ch' : List Bool) : (t.lose ch).lose ch' = t.lose ch := by
  have e : Ta.pick ([] : List (Int × List UInt8)) ch' = [] := by cases ch' <;> rfl
  show (⟨(t.kept ++ Ta.pick t.cache ch) ++ Ta.pick [] ch', [], -1, false⟩ : Tray (List UInt8)) = ⟨t.kept ++ Ta.pick t.cache ch, [], -1, false⟩
  rw [e, List.append_nil]
theorem Ready.power (h : Ready n u a e f hd tail img r) (z : Int) : Ready n (u.power z) a e f hd tail img r := ⟨h.marks.same fun _ _ => rfl, h.found, live_moved h.live h.live.cache fun _ => rfl, h.eb⟩
theorem set_two (h : u.left = 2) : (setT u ms).2 = 0 := by
  have hp : (u.put ((ms.getD 0 0 % 2 : Nat) : Int) (mkS ms)).left = 1 := by
    unfold Tray.put
    rw [if_neg (by omega)]
    show (if 0 < u.left then u.left - 1 else u.left) = 1
    rw [if_pos (by omega)]
    omega
  unfold setT
  rw [if_neg (by omega), if_neg (by omega)]
theorem set_few (h : u.left = 0 ∨ u.left = 1) : (setT u ms).2 ≠ 0 := by
  unfold setT
  rcases h with h | h
  · rw [if_pos h]
    exact (by decide : (20 : Int) ≠ 0)
  · have hp : (u.put ((ms.getD 0 0 % 2 : Nat) : Int) (mkS ms)).left = 0 := by
      unfold Tray.put
      rw [if_neg (by omega)]
      show (if 0 < u.left then u.left - 1 else u.left) = 0
      rw [if_pos (by omega)]
      omega
    rw [if_neg (by omega), if_pos hp]
    exact (by decide : (20 : Int) ≠ 0)
/-- Whatever a loss takes, it may be opened, and not too often was. -/
def Rdy (n : Nat) (u : Tray (List UInt8)) (i f hd tail : Nat) (img : List UInt8) (r : List (List UInt8 × Nat)) : Prop := ∀ ch, ∃ a e, a ≤ i ∧ e ≤ i ∧ Ready n (u.lose ch) a e f hd tail img r
theorem Rdy.lost {i : Nat} (h : Rdy n u i f hd tail img r) (ch : List Bool) : Rdy n (u.lose ch) i f hd tail img r := fun ch' => by
  rw [lose_done]
  exact h ch
end
section
variable {w x : World} {p n i : Nat} {F : Nat → Prop} {a e hd f tail : Nat} {img : List UInt8} {r : List (List UInt8 × Nat)} {u : Tray (List UInt8)}
theorem reopen_any (hb : Below w.heap.size w x) (hi : IsT x p n u F) (hF : ∀ k, F k → w.heap.size ≤ k) (hr : Ready n u a e hd f tail img r) (ha : a ≤ i) (he : e ≤ i) (hi2 : i ≤ 1000000) :
    Calls Try.prog 45 #[ptr p] x fun ee y => ∃ hv iv rv cd u' F', ee = .returned (.tuple #[hv, iv, rv, .int .i64 cd]) ∧ Turns F x y ∧ IsT y p n u' F' ∧ (∀ k, F' k → F k ∨ x.heap.size ≤ k) ∧ u'.cache.length ≤ 1 ∧ Rdy n u' (i + 1) hd f tail img r ∧
      (((setT u (openM (cnt u).1)).2 = 0 ∧ cd = 0 ∧ (∃ a' m c, iv = .slice a' m c) ∧ IsBytes y iv img ∧ IsRecs y rv (r.map Prod.fst)) ∨ ((setT u (openM (cnt u).1)).2 ≠ 0 ∧ cd = 20)) := by
  have hcn : (cnt u).2 = true := by rw [hr.marks.cnt]
  have hnr : ¬ Rot n (cnt u).1 := by rw [hr.marks.cnt]; exact hr.marks.sound hr.eb
  have hce : u.cache.length ≤ 80000 := by rw [hr.live.cache]; exact Nat.zero_le _
  refine (open_goes hb hF hi hr.marks.n64.1 hcn hnr hce).mono ?_
  rintro ee y ⟨rr, iv, rv, cd, rfl, ht, ⟨h1, rfl, q, h, F', G, rfl, hs, hF', hq, hh, hiv, hst, hrc, hG, hro⟩ | ⟨h1, rfl, rfl, rfl, rfl, F', hi3, hF'⟩⟩
  · obtain ⟨o1, o2, o3, o4⟩ := hr.opened (fun z => Ta.read_len hi z) (by omega) h1
    rw [o3] at hst
    rw [o2] at hrc
    refine ⟨_, iv, rv, _, _, F', rfl, ht, hs.sys.tray, hF', by rw [o1.live.cache]; exact Nat.zero_le _, fun ch => ⟨a + 1, e + 1, by omega, by omega, ?_⟩, .inl ⟨h1, rfl, hiv, hst.now, hrc.is⟩⟩
    have h2 := o1.ready (by rw [o4]; show e + 1 + 1 ≤ _; omega) ch
    rw [o4] at h2
    exact h2
  · obtain ⟨-, s2⟩ := set_bad hr.live.cache h1
    refine ⟨_, _, _, _, _, F', rfl, ht, hi3, hF', by rcases s2 with s2 | s2 <;> rw [s2] <;> simp, fun ch => ?_, .inr ⟨h1, rfl⟩⟩
    rcases hr.half (by omega) (by omega) h1 ch with h2 | h2
    · exact ⟨a, e, by omega, by omega, h2⟩
    · exact ⟨a + 1, e + 1, by omega, by omega, h2⟩
/-- One choice in a block of its own. -/
theorem one_flag (W : World) (b : Bool) (ty : TypeId) (fr : Nat × Nat) : IsFlags (W.alloc (.cells #[.bool b] ty fr)) (.slice (some ⟨W.heap.size, 0, none⟩) 1 1) [b] := by
  refine ⟨_, 1, rfl, Nat.le_refl _, by decide, fun _ => ⟨W.heap.size, 0, rfl, fun j v hj => ?_⟩⟩
  rw [Go.Joins.cell_of_block (heap_alloc_new W _), Nat.zero_add]
  simpa using hj
end
end Ho
end Go.Proofs.Ytkfmmdiflbnhgaa
