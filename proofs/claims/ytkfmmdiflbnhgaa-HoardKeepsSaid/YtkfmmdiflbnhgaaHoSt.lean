/-
  Layer 14's statements: the same records; a hoard with a list of records beside it.
-/
import Derived.Test.YtkfmmdiflbnhgaaHoAwake
import Derived.Test.YtkfmmdiflbnhgaaSgpE
namespace Go.Proofs.Ytkfmmdiflbnhgaa
set_option maxRecDepth 100000
open Go.RowKit
open Knot (Turns NewRow)
open Ta (IsBytes IsFlags Stay sec nul ptr IsT C5 Tray Made)
open Tr (IsElem append_rows addp own_slice)
open Sp (S SpB found Recs IsRecs Live rdS parts append rec_at bytes_str str_inj tBss tBs recs_nil)
namespace Ho
section
variable {w : World}
set_option maxHeartbeats 8000000 in
set_option maxRecDepth 100000 in
theorem same_any (v1 v2 : Value) (L M : List (List UInt8)) (h1 : IsRecs w v1 L) (h2 : IsRecs w v2 M) : Calls Try.prog 47 #[v1, v2] w fun e x => e = .returned (.bool (decide (L = M))) ∧ Below w.heap.size w x := by
  have H := Lib.hid (And.intro h1 h2)
  obtain ⟨a1, c1, rfl, g1, g2, -⟩ := h1
  obtain ⟨a2, c2, rfl, -, -, -⟩ := h2
  have hbig : L.length ≤ 9223372036854775807 := by unfold maxLen at g2; omega
  clear g1 g2
  by_cases hl : L.length = M.length
  · have e1 : ((L.length : Int) != (M.length : Int)) = false := by simp [hl]
    have HLe := Lib.hid hl
    clear hl
    go_enter Try.func47, Try.ntmps47
    go_wp2_with fail
    go_loopw [13] (fun i x => ∃ j : Nat, j ≤ L.length ∧ i = .int .i64 (j : Int) ∧ Hid (Below w.heap.size w x ∧ L.take j = M.take j)) (fun i _ => L.length - (intOf i).toNat)
    case atStart => exact ⟨0, by omega, rfl, Below.refl _ _, rfl⟩
    case round =>
      obtain ⟨j, hj, rfl, HX⟩ := hrel
      by_cases hlt : j < L.length
      · have hlm : j < M.length := by have := HLe.out; omega
        obtain ⟨g, q, u, hix, hu, hbu⟩ := rec_at (H.out.1.below HX.out.1) hlt
        obtain ⟨g', q', u', hix', hu', hbu'⟩ := rec_at (H.out.2.below HX.out.1) hlm
        have hcv := fun m => bytes_str (Ta.IsBytes.below hbu (below_drewN (Below.refl wr.heap.size wr) m))
        have hcv' := fun m => bytes_str (Ta.IsBytes.below hbu' (below_drewN (Below.refl wr.heap.size wr) m))
        have hnx : L.take (j + 1) = M.take (j + 1) ↔ L[j] = M[j] := by
          rw [List.take_succ_eq_append_getElem hlt, List.take_succ_eq_append_getElem hlm, HX.out.2]
          constructor
          · intro h
            exact List.head_eq_of_cons_eq (List.append_cancel_left h)
          · intro h
            rw [h]
        have hne : (((Ta.str L[j]).toList != (Ta.str M[j]).toList)) = !decide (L[j] = M[j]) := by rw [bne, str_inj]
        have hix2 : (0 : Int) ≤ (j : Int) := by omega
        have HN := Lib.hid (And.intro hnx hne)
        by_cases hsame : L[j] = M[j]
        · have hq : ((Ta.str L[j]).toList != (Ta.str M[j]).toList) = false := by rw [hne]; simp [hsame]
          have hq2 : ((Ta.str L[j]).toList == (Ta.str M[j]).toList) = true := by rw [str_inj]; simp [hsame]
          have HSm := Lib.hid hsame
          clear hnx hne hsame
          generalize Ta.str L[j] = A at *
          generalize Ta.str M[j] = B at *
          go_wp2_with fail
          go_quiet (fail)
          go_wp2_with fail
          go_roundw
          case rel => exact ⟨j + 1, by omega, by go_num, ⟨below_drewN HX.out.1 _, HN.out.1.2 HSm.out⟩⟩
          case measure => simp [intOf]; omega
        · have hq : ((Ta.str L[j]).toList != (Ta.str M[j]).toList) = true := by rw [hne]; simp [hsame]
          have hq2 : ((Ta.str L[j]).toList == (Ta.str M[j]).toList) = false := by rw [str_inj]; simp [hsame]
          have HF := Lib.hid (show decide (L = M) = false from decide_eq_false fun h => hsame (by subst h; rfl))
          clear hnx hne hsame
          generalize Ta.str L[j] = A at *
          generalize Ta.str M[j] = B at *
          go_wp2_with fail
          go_quiet (fail)
          go_wp2_with fail
          go_ret
          exact ⟨by rw [HF.out]; rfl, below_drewN HX.out.1 _⟩
      · have hjl : j = L.length := by omega
        have HE := Lib.hid (show decide (L = M) = true from decide_eq_true (by
          have h := HX.out.2
          rwa [hjl, List.take_length, HLe.out, List.take_length] at h))
        have hnl : ¬ (j : Int) < (L.length : Int) := by omega
        clear hlt hjl
        go_wp2_with fail
        go_ret
        exact ⟨by rw [HE.out]; rfl, HX.out.1⟩
  · have e1 : ((L.length : Int) != (M.length : Int)) = true := by simp; omega
    have HF := Lib.hid (show decide (L = M) = false from decide_eq_false fun h => hl (by rw [h]))
    clear hl
    go_enter Try.func47, Try.ntmps47
    go_wp2_with fail
    go_ret
    exact ⟨by rw [HF.out]; rfl, Below.refl _ _⟩
end
/-- Bytes that came in stay, whatever the call's own blocks do. -/
theorem in_stay {w x : World} {v : Value} {b : List UInt8} {F : Nat → Prop} (h : IsBytes w v b) (hb : Below w.heap.size w x) (hF : ∀ k, F k → w.heap.size ≤ k) : Stay F x fun y => IsBytes y v b := fun _ hy =>
  Ta.IsBytes.below h (hb.trans (hy.below hb.size hF))
/-- A hoard, and a list of records beside it. -/
structure Hk (w x : World) (h p q : Nat) (H : Hd) (F : Nat → Prop) (vu : Value) (L : List (List UInt8)) : Prop where
  hs : Hs w x h p q 80 H F
  rows : Recs w.heap.size (fun k => F k ∨ k = q ∨ k = h) x vu L
  row : ∀ k, vu.ownBlock = some k → ¬ F k ∧ k ≠ q ∧ k ≠ h
section
variable {w x y : World} {h p q : Nat} {H H' : Hd} {F F' : Nat → Prop} {vu v' : Value} {L L' : List (List UInt8)}
theorem Hk.on (hk : Hk w x h p q H F vu L) (hb : Below x.heap.size x y) : Hk w y h p q H F vu L := ⟨hk.hs.on hb, hk.rows.below hb, hk.row⟩
theorem Hk.new (hk : Hk w x h p q H F vu L) : ∀ k, F k ∨ k = q ∨ k = h → w.heap.size ≤ k := fun k e => by
  rcases e with e | e | e
  · exact hk.hs.sys.new k e
  · rw [e]; exact hk.hs.sys.newq
  · rw [e]; exact hk.hs.off.2.2
theorem Hk.lt (hk : Hk w x h p q H F vu L) : ∀ k, F k ∨ k = q ∨ k = h → k < x.heap.size := fun k e => by
  rcases e with e | e | e
  · exact hk.hs.sys.tray.low k e
  · rw [e]; exact hk.hs.sys.spool.lt
  · rw [e]; exact hk.hs.box.lt
/-- Behind a call of its own. -/
theorem Hk.next (hk : Hk w x h p q H F vu L) (hs : Hs w y h p q 80 H' F') (hF : ∀ k, F' k → F k ∨ x.heap.size ≤ k) (ht : Turns (fun k => F k ∨ k = q ∨ k = h) x y) : Hk w y h p q H' F' vu L := by
  refine ⟨hs, recs_go hk.rows ht (fun k hk2 e => ?_) fun k hk2 e => ?_, fun k hk2 => ⟨fun e => ?_, (hk.row k hk2).2⟩⟩
  · have h1 := hk.row k hk2
    rcases e with e | e | e
    · exact h1.1 e
    · exact h1.2.1 e
    · exact h1.2.2 e
  · rcases e with e | e | e
    · rcases hF k e with h1 | h1
      · exact .inl h1
      · omega
    · exact .inr (.inl e)
    · exact .inr (.inr e)
  · obtain ⟨vs, h1, -⟩ := hk.rows
    have h2 := (h1.lt k hk2).2
    rcases hF k e with h3 | h3
    · exact (hk.row k hk2).1 h3
    · omega
/-- One more record in the list. -/
theorem Hk.grow (hk : Hk w x h p q H F vu L) (h2 : Recs w.heap.size (fun k => F k ∨ k = q ∨ k = h) y v' L') (hg : x.grownBy y vu.ownBlock) (hn : NewRow x vu v') : Hk w y h p q H F v' L' := by
  have ht : Turns (fun k => vu.ownBlock = some k) x y := Turns.of_grown hg fun k hk => hk
  have hlt := hk.lt
  refine ⟨⟨hk.hs.sys.turn ht fun k hk2 => ?_, hk.hs.box.turn ht fun hh => (hk.row h hh).2.2 rfl, hk.hs.off, hk.hs.n64, hk.hs.fld, hk.hs.small⟩, h2, fun k hk2 => ?_⟩
  · obtain ⟨vs, h1, -⟩ := hk.rows
    exact ⟨(h1.lt k hk2).1, (hk.row k hk2).1, (hk.row k hk2).2.1⟩
  · rcases hn k hk2 with h1 | h1
    · exact hk.row k h1
    · exact ⟨fun e => by have := hlt k (.inl e); omega, fun e => by have := hlt k (.inr (.inl e)); omega, fun e => by have := hlt k (.inr (.inr e)); omega⟩
theorem Hk.none (hs : Hs w x h p q 80 H F) : Hk w x h p q H F (.slice none 0 0) [] := ⟨hs, recs_nil _ _ _, fun k hk => by simp [Value.ownBlock] at hk⟩
end
end Ho
end Go.Proofs.Ytkfmmdiflbnhgaa
