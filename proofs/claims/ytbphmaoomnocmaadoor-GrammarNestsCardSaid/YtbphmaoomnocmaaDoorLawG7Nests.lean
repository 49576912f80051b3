/-
  GrammarNests, walked.
-/
import Derived.Test.YtbphmaoomnocmaaDoorGrAwake
import Derived.Test.YtbphmaoomnocmaaDoorRGood
import Derived.Lib.Repeat
namespace Go.Proofs.YtbphmaoomnocmaaDoor
open Go.RowKit
namespace LawG7Nests
open Gr
open Knot (Turns NewRow)
open Tr (Nd none0 node4 own_slice Box4 IsNode size)
open Sg (Tok kt plV)

theorem of_list {a b : ByteArray} (h : a.data.toList = b.data.toList) : a = b := by
  cases a; cases b; simp only at h
  congr 1
  exact Array.toList_inj.1 h
def rep (b : UInt8) (k : Nat) : ByteArray := ⟨(Lib.repeatL [b] k).toArray⟩
theorem rep_list (b : UInt8) : ∀ k, Lib.repeatL [b] k = List.replicate k b
  | 0 => rfl
  | k + 1 => by rw [Lib.repeatL, rep_list b k]; rfl
def text (k : Nat) : ByteArray := rep 40 k ++ ⟨#[97, 45, 62, 98]⟩ ++ rep 41 k
theorem text_list (k : Nat) : (text k).data.toList = (nest k).map Nat.toUInt8 := by
  have h : ∀ b : UInt8, (rep b k).data.toList = List.replicate k b := fun b => by
    show (Lib.repeatL [b] k).toArray.toList = _
    rw [rep_list]
  unfold text nest
  simp only [ByteArray.data_append, Array.toList_append, h, List.map_append, List.map_replicate]
  rfl
theorem text_size (k : Nat) (hk : k < 20) : (text k).size ≤ 4000000 := by
  rw [Lib.size_eq, text_list, List.length_map]
  exact Nat.le_trans (nest_len k hk) (by omega)
theorem exprA_text (k : Nat) (hk : k < 20) : exprA (text k) = answer zeroN union (ansF (nest k)) := exprA_of (text_list k) (nest_low k) (nest_len k hk)
theorem arrow_leaf (w : World) : IsNode w (.mk 3 ⟨#[97]⟩ ⟨#[98]⟩ []) (node4 3 ⟨#[97]⟩ ⟨#[98]⟩ (.slice none 0 0)) := NodeS.is _ (Nat.le_refl _) (leaf (S := fun _ => True) (by decide) (by decide))

set_option maxHeartbeats 8000000 in
set_option maxRecDepth 100000 in
theorem walk (n : Int) (w : World) (hz : (Lit.int .u8 n).wf = true) {a0 a1 : Addr} (hg : Glob a0 a1 w) :
    Calls Tryd.prog 5 #[.int .u8 n] w fun e y => e = .returned (.bool true) ∧ Below w.heap.size w y := by
  have hn : 0 ≤ n ∧ n < 256 := by
    have := hz
    simp [Lit.wf, IntKind.min, IntKind.max, IntKind.bits, IntKind.signed] at this
    omega
  clear hz
  obtain ⟨k, hk⟩ : ∃ k : Nat, k = (n % 20).toNat := ⟨_, rfl⟩
  have hk20 : k < 20 := by omega
  have hmod : n % 20 = (k : Int) := by omega
  have hT := nests k hk20
  have HA := Lib.hid (awake_any hg)
  have HR := Lib.hid (show (∀ W, Calls Tryd.prog 17 #[.string ⟨#[40]⟩, .int .i64 (k : Int)] W fun e w' => e = .returned (.string (rep 40 k)) ∧ Below W.heap.size W w') ∧ (∀ W, Calls Tryd.prog 17 #[.string ⟨#[41]⟩, .int .i64 (k : Int)] W fun e w' => e = .returned (.string (rep 41 k)) ∧ Below W.heap.size W w') from ⟨fun W => Tryd.strings_Repeat ⟨#[40]⟩ k W (by omega) (by simp [ByteArray.size]; omega), fun W => Tryd.strings_Repeat ⟨#[41]⟩ k W (by omega) (by simp [ByteArray.size]; omega)⟩)
  have HE := Lib.hid (fun y (hb : Below w.heap.size w y) => Expr_any (text_size k hk20) (hg.below hb))
  rw [exprA_text k hk20] at HE
  generalize answer zeroN union (ansF (nest k)) = r at *
  obtain ⟨m, pl, code⟩ := r
  clear hg hk
  go_enter Tryd.func5, Tryd.ntmps5
  go_wp2_with fail
  refine HA.out.mono ?_
  rintro e w1 ⟨rfl, b1⟩
  go_wp2_with fail
  refine (HR.out.1 _).mono ?_
  rintro e w2 ⟨rfl, b2⟩
  replace b2 := b1.trans (b2.mono b1.size)
  clear b1
  have hr40 : (rep 40 k).size = k := by
    rw [Lib.size_eq]
    show (Lib.repeatL [40] k).toArray.toList.length = k
    rw [rep_list]; simp
  have hr41 : (rep 41 k).size = k := by
    rw [Lib.size_eq]
    show (Lib.repeatL [41] k).toArray.toList.length = k
    rw [rep_list]; simp
  have h4s : (rep 40 k ++ (⟨#[97, 45, 62, 98]⟩ : ByteArray)).size = k + 4 := by
    rw [ByteArray.size_append, hr40]; rfl
  have hs1 : ∀ W, (Op.stringOp .add (rep 40 k) ⟨#[97, 45, 62, 98]⟩).run Tryd.prog W = .ok (.string (rep 40 k ++ ⟨#[97, 45, 62, 98]⟩)) W := fun W => run_string_add_sum W _ _ (by rw [hr40]; simp [ByteArray.size]; omega)
  have hs2 : ∀ W, (Op.stringOp .add (rep 40 k ++ ⟨#[97, 45, 62, 98]⟩) (rep 41 k)).run Tryd.prog W = .ok (.string (rep 40 k ++ ⟨#[97, 45, 62, 98]⟩ ++ rep 41 k)) W := fun W => run_string_add_sum W _ _ (by rw [h4s, hr41]; omega)
  clear hr40 hr41 h4s
  go_wp2_with fail
  refine (HR.out.2 _).mono ?_
  rintro e w3 ⟨rfl, b3⟩
  replace b3 := b2.trans (b3.mono b2.size)
  clear b2 HA
  have HC := Lib.hid (HE.out w3 b3)
  have hsz := text_size k hk20
  have htx : text k = rep 40 k ++ ⟨#[97, 45, 62, 98]⟩ ++ rep 41 k := rfl
  generalize text k = tx at *
  clear HE HR
  go_wp2_with fail
  rw [← htx]
  refine HC.out.mono ?_
  rintro e y ⟨v, rfl, hv, hby⟩
  obtain ⟨no, nc, us, rfl, -⟩ := NodeS.open hv
  have hn : IsNode y m (node4 m.kind m.ta m.tb (.slice no m.kids.length nc)) := NodeS.is _ (Nat.le_refl _) hv
  have b4 := b3.trans (hby.mono b3.size)
  clear hv hby HC b3 htx hsz
  obtain ⟨hc, hp, hkd, hta, htb, hkl⟩ := hT
  simp only at hc hp hkd hta htb hkl
  by_cases h8 : 8 < k
  · simp only [if_pos h8] at hc hp hkd hta htb
    subst hc hp
    have P19 := pl_19
    have e8 : decide ((8 : Int) < (k : Int)) = true := by simp; omega
    have b5 : Below y.heap.size y ((y.alloc (.cells #[.int .i64 m.kind, .string m.ta, .string m.tb, .slice no m.kids.length nc] 25)).alloc (.cells #[.int .i64 1, .int .i64 9] tPl)) := ((Below.refl _ _).alloc (Nat.le_refl _) _).alloc (by simp) _
    have HB := Lib.hid (b4.trans (b5.mono b4.size))
    clear hkd hta htb hkl hn b5 b4
    rw [show plV (1, 9) = .agg #[.int .i64 1, .int .i64 9] from rfl]
    go_wp2_with fail
    go_ret
    exact ⟨rfl, HB.out⟩
  · simp only [if_neg h8] at hc hp hkd hta htb
    subst hc hp
    have e8 : decide ((8 : Int) < (k : Int)) = false := by simp; omega
    cases m with
    | mk mk' ma mb ml =>
    have hk3 : mk' = 3 := hkd
    have ha : ma = ⟨#[97]⟩ := by
      have h : ma.data.toList = [97] := hta
      exact of_list h
    have hb : mb = ⟨#[98]⟩ := by
      have h : mb.data.toList = [98] := htb
      exact of_list h
    have hl : ml = [] := List.eq_nil_of_length_eq_zero hkl
    subst hk3 ha hb hl
    have b5 : Below y.heap.size y ((y.alloc (.cells #[.int .i64 3, .string ⟨#[97]⟩, .string ⟨#[98]⟩, .slice no 0 nc] 25)).alloc (.cells #[.int .i64 0, .int .i64 0] tPl)) := ((Below.refl _ _).alloc (Nat.le_refl _) _).alloc (by simp) _
    have HS := Lib.hid (rsame_any _ (.mk 3 ⟨#[97]⟩ ⟨#[98]⟩ []) _ _ _ (Nat.le_refl _) (by decide) (hn.below b5) (arrow_leaf _))
    have HB := Lib.hid (b4.trans (b5.mono b4.size))
    clear hkd hta htb hkl hn b5 b4
    rw [show plV (0, 0) = .agg #[.int .i64 0, .int .i64 0] from rfl]
    go_wp2_with fail
    refine HS.out.mono ?_
    rintro e z ⟨rfl, b6⟩
    go_wp2_with fail
    go_ret
    exact ⟨rfl, HB.out.trans (b6.mono HB.out.size)⟩
end LawG7Nests
end Go.Proofs.YtbphmaoomnocmaaDoor
