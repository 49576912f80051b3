/-
  The document's Runes in this program: a list of its own of a text's runes, or that it isn't UTF-8.
-/
import Derived.Test.YtdlfbikpniionaaGreatDoorRune
namespace Go.Proofs.YtdlfbikpniionaaGreatDoor
open Go.RowKit
namespace Ref

theorem infoInt : (Tryz.prog.info? 3).map (fun i => (i.zero, i.size, i.bytes)) = some (some (.int .i64 0), 1, 8) := by kernel_rfl

/-- Numbers as cells. -/
def nums (t : List Nat) : List Value := t.map fun (r : Nat) => Value.int .i64 (r : Int)
theorem nums_length (t : List Nat) : (nums t).length = t.length := by simp [nums]
theorem nums_snoc (t : List Nat) (r : Nat) : nums t ++ [Value.int .i64 (r : Int)] = nums (t ++ [r]) := by simp [nums]

/-- What Runes answers: a list of its own, or that the text isn't UTF-8. -/
def RunesOut (B : Nat) (w : World) (o : Option (List Nat)) (e : Ending) (w' : World) : Prop :=
  match o with
  | some t => ∃ v, e = .returned (.tuple #[v, .bool true]) ∧ w'.ownsRow B 3 1 v t.length (nums t) ∧ Below B w w'
  | none => e = .returned (.tuple #[.slice none 0 0, .bool false]) ∧ Below B w w'

theorem rune_bad (s : ByteArray) (p : Nat) (hp : p < s.size) (hs : s.size ≤ 4000000) (w : World) (hb : Gly.bad (s.data.toList.drop p) = true) :
    Calls Tryz.prog 23 #[.string s, .int .i64 p] w fun e w' => e = .returned (.tuple #[.int .i64 0, .int .i64 0]) ∧ w = w' := by
  have h := rune_any s p hp hs w
  rw [rv_zero (Gly.rr_bad hb)] at h
  exact h
theorem rune_good (s : ByteArray) (p : Nat) (hp : p < s.size) (hs : s.size ≤ 4000000) (w : World) (hb : Gly.bad (s.data.toList.drop p) = false) :
    Calls Tryz.prog 23 #[.string s, .int .i64 p] w fun e w' => e = .returned (.tuple #[.int .i64 ((Utf8.decode s p).1 : Int), .int .i64 ((Utf8.decode s p).2 : Int)]) ∧ w = w' := by
  have h := rune_any s p hp hs w
  rw [rv, Gly.rr_good hb, ← Gly.dec_at] at h
  exact h

set_option maxHeartbeats 4000000 in
set_option maxRecDepth 100000 in
theorem runes_any (s : ByteArray) (w : World) (hs : s.size ≤ 4000000) :
    Calls Tryz.prog 11 #[.string s] w (RunesOut w.heap.size w (Gly.runes s.data.toList)) := by
  obtain ⟨i0, hi, hz0, hz1, hz2⟩ := info_parts infoInt
  go_enter Tryz.func11, Tryz.ntmps11
  go_wp2
  go_loopw [4, 5] (fun v a wr => ∃ (p : Nat) (t : List Nat), a = .int .i64 p ∧ wr.ownsRow w.heap.size 3 1 v t.length (nums t) ∧ Below w.heap.size w wr ∧ Hid ((Gly.runes (s.data.toList.drop p)).map (t ++ ·) = Gly.runes s.data.toList) ∧ t.length ≤ p ∧ p ≤ s.size) (fun _ a _ => s.size - (intOf a).toNat)
  case atStart => exact ⟨0, [], rfl, World.ownsRow_nil _ _ _ _, Below.refl _ _, Lib.hid (by simp), by simp, by omega⟩
  case round =>
    obtain ⟨p, t, rfl, hown, hbw, HS, htl, hps⟩ := hrel
    by_cases hp : p < s.size
    · have hwd := Gl.width s p hp
      have hne := Gl.drop_ne hp
      cases hb : Gly.bad (s.data.toList.drop p) with
      | true =>
        have hr := HS.out
        rw [Gly.runes_bad hne hb] at hr
        have HR := Lib.hid hr
        have HC := Lib.hid (fun W => rune_bad s p hp hs W hb)
        clear hr hb hne
        go_wp2_with (go_at_call 23; refine (HC.out _).mono ?_; rintro e w' ⟨rfl, rfl⟩)
        go_ret2
        rw [← HR.out]
        exact ⟨rfl, hbw⟩
      | false =>
        have hr := HS.out
        rw [Gly.runes_step hne hb, Gl.drop_next, Option.map_map, ← Gly.dec_at] at hr
        have HR := Lib.hid hr
        have HC := Lib.hid (fun W => rune_good s p hp hs W hb)
        have hsz := hbw.size
        have hw0 : (((Utf8.decode s p).2 : Int) == 0) = false := by simp; omega
        clear hr hb hne
        go_wp2_with (first
          | (go_at_call 23; refine (HC.out _).mono ?_; rintro e w' ⟨rfl, rfl⟩)
          | (at_builtin; refine wpList_append_own _ rfl _ _ 31 rfl w.heap.size 3 i0 (.int .i64 0) 1 8 Tryz.underlying31 hi hz0 hz1 hz2 rfl (by decide) _ _ _ rfl (hown.alloc _) ⟨wr.heap.size, 0, none⟩ 1 1 [.int .i64 ((Utf8.decode s p).1 : Int)] rfl rfl ?c1 ?c2 ?c3 ?c4 ?c5 ?_))
        case c1 =>
          intro j u hj
          match j, hj with
          | 0, hj => simp at hj; subst hj; simp [Addr.add]
        case c2 => intro u hu; simp at hu; subst hu; rfl
        case c3 => unfold maxLen; omega
        case c4 => omega
        case c5 => simp; omega
        intro v' w3 hown' hgrow3 _
        have hown3 : w3.ownsRow w.heap.size 3 1 v' (t ++ [(Utf8.decode s p).1]).length (nums (t ++ [(Utf8.decode s p).1])) := by
          rw [← nums_snoc, List.length_append]; exact hown'
        have hbw3 : Below w.heap.size w w3 := Below.grown (hbw.alloc (by omega) _) hgrow3 (by simp; omega) (fun j hj => (hown.lt _ hj).1)
        clear hown' hgrow3 hown hbw
        go_wp2
        go_roundw
        case rel => exact ⟨p + (Utf8.decode s p).2, _, by go_num, hown3, hbw3, Lib.hid (by rw [← HR.out]; simp [Function.comp_def]), by simp; omega, by omega⟩
        case measure => simp [intOf]; omega
    · have hr := HS.out
      rw [Gl.drop_end hp, Gly.runes_nil] at hr
      have HR := Lib.hid hr
      clear hr
      go_wp2
      go_ret2
      rw [← HR.out]
      simp only [Option.map_some, List.append_nil]
      exact ⟨_, rfl, hown, hbw⟩
end Ref
end Go.Proofs.YtdlfbikpniionaaGreatDoor
