/-
  Layer 15: a hedge of the call's own; what is awake.
-/
import Derived.Test.YtldacdpejncbnaaHgSame
namespace Go.Proofs.Ytldacdpejncbnaa
open Go.RowKit
namespace Hg
open Knot (Turns NewRow)
open Tr (IsElem own_turn own_below own_slice own_open walk_rows)

/-- A hedge whose blocks are all new. -/
structure Al (B p : Nat) (w : World) (t : T) : Prop where
  h : IsH w p t
  low : ∀ i ∈ p :: t.blks, B ≤ i
section
variable {B p : Nat} {w x : World} {t : T}
theorem Al.on (h : Al B p w t) (hb : Below w.heap.size w x) : Al B p x t := ⟨h.h.below hb, h.low⟩
theorem Al.became (h : Al B p w t) (hB : B ≤ w.heap.size) {L : List Ent} (hb : Became w p t L x) : ∃ t', Al B p x t' ∧ t'.ents = L ∧ Below B w x := by
  obtain ⟨t', h1, h2, h3, h4⟩ := hb
  refine ⟨t', ⟨h1, fun i hi => ?_⟩, h2, h3.below hB fun k hk => h.low k hk⟩
  rcases List.mem_cons.1 hi with rfl | hi
  · exact h.low _ List.mem_cons_self
  · rcases h4 i hi with h5 | h5
    · exact h.low i (List.mem_cons_of_mem _ h5)
    · omega
end
theorem new_al (w : World) : Calls Try.prog 7 #[] w fun e y => e = .returned (.pointer (some ⟨w.heap.size, 0, none⟩)) ∧ Al w.heap.size w.heap.size y .nil ∧ Below w.heap.size w y :=
  (new_row w).mono fun _ _ ⟨h1, h2, h3⟩ => ⟨h1, ⟨h2, fun i hi => by simp [T.blks] at hi; omega⟩, h3⟩
theorem put_al {B p : Nat} {w : World} {t : T} (h : Al B p w t) (hB : B ≤ w.heap.size) (q : ByteArray) (x : Int) (hq : q.size ≤ keyMax) (hs : t.ents.length < 40000) :
    Calls Try.prog 11 #[.pointer (some ⟨p, 0, none⟩), .string q, .int .i64 x] w fun e y => e = .returned (.bool (get t.ents q).isNone) ∧ ∃ t', Al B p y t' ∧ t'.ents = put t.ents q x ∧ Below B w y :=
  (put_row h.h q x hq (by rw [← T.ents_len]; exact hs)).mono fun _ _ ⟨h1, h2⟩ => ⟨h1, h.became hB h2⟩
theorem drop_al {B p : Nat} {w : World} {t : T} (h : Al B p w t) (hB : B ≤ w.heap.size) (q : ByteArray) :
    Calls Try.prog 13 #[.pointer (some ⟨p, 0, none⟩), .string q] w fun e y => e = .returned (.int .i64 (if (get t.ents q).isSome then 0 else 19)) ∧ ∃ t', Al B p y t' ∧ t'.ents = drop t.ents q ∧ Below B w y :=
  (drop_row h.h q).mono fun _ _ ⟨h1, h2⟩ => ⟨h1, h.became hB h2⟩
def tx (l : List UInt8) : ByteArray := ⟨l.toArray⟩
def ex0 : List Ent := put [] (tx [98]) 1
def ex1 : List Ent := put ex0 (tx [97, 98]) 1
def ex2 : List Ent := put ex1 (tx [97]) 1
theorem ai (j : Nat) (s : ByteArray) (h : [(⟨#[98]⟩ : ByteArray), ⟨#[97, 98]⟩, ⟨#[97]⟩][j]? = some s) (W : World) : (Instr.index 58 (.agg #[.string ⟨#[98]⟩, .string ⟨#[97, 98]⟩, .string ⟨#[97]⟩]) (.int .i64 (j : Int))).run Try.prog W = .ok (.string s) W := by
  rcases (show j = 0 ∨ j = 1 ∨ j = 2 ∨ 3 ≤ j by omega) with rfl | rfl | rfl | h3
  · cases h; kernel_rfl
  · cases h; kernel_rfl
  · cases h; kernel_rfl
  · rw [List.getElem?_eq_none (by simpa using h3)] at h; cases h
theorem ex_eq : ex2 = [(tx [97], 1), (tx [97, 98], 1), (tx [98], 1)] := by decide +kernel
theorem ex_under : (((upon ex2 (tx [97])).filter fun e => begins (tx [97]) e.1).take (9 : Int).toNat) = [(tx [97], 1), (tx [97, 98], 1)] := by decide +kernel
theorem ex_rank : rank ex2 (tx [98]) = 2 := by decide +kernel
set_option maxHeartbeats 4000000 in
set_option maxRecDepth 100000 in
theorem awake_any (w : World) : Calls Try.prog 8 #[] w fun e x => e = .returned (.bool true) ∧ Below w.heap.size w x := by
  go_enter Try.func8, Try.ntmps8
  go_wp2_with fail
  refine (new_al w).mono ?_
  rintro e x ⟨rfl, hA, hb⟩
  have HA := Lib.hid (And.intro hA hb)
  clear hA hb
  go_wp2_with fail
  go_loopw [9] (fun i wr => ∃ (j : Nat) (t : T), j ≤ 3 ∧ i = .int .i64 (j : Int) ∧ Hid (Al w.heap.size w.heap.size wr t ∧ t.ents = (if j = 0 then [] else if j = 1 then ex0 else if j = 2 then ex1 else ex2) ∧ Below w.heap.size w wr)) (fun i _ => 3 - (intOf i).toNat)
  case atStart => exact ⟨0, .nil, by omega, rfl, HA.out.1, rfl, HA.out.2⟩
  case round =>
    obtain ⟨j, t, hj, rfl, HS⟩ := hrel
    have hk := fun (s : ByteArray) (hs : s.size ≤ 2) => put_al HS.out.1 HS.out.2.2.size s 1 (by unfold keyMax; omega) (by
      rw [HS.out.2.1]
      repeat' split
      all_goals decide +kernel)
    have HP := Lib.hid hk
    clear hk
    rcases (show j = 0 ∨ j = 1 ∨ j = 2 ∨ j = 3 by omega) with rfl | rfl | rfl | rfl
    · have hix : ∀ W, (Instr.index 58 _ (.int .i64 0)).run Try.prog W = _ := ai 0 (tx [98]) rfl
      go_wp2_with fail
      refine (HP.out (tx [98]) (by decide)).mono ?_
      rintro e y ⟨rfl, t', hA', he, hb⟩
      have HN := Lib.hid (And.intro hA' (And.intro (show t'.ents = ex0 by rw [he, HS.out.2.1]; rfl) (HS.out.2.2.trans hb)))
      clear hA' he hb HS HP
      go_wp2_with fail
      go_roundw
      case rel => exact ⟨1, t', by omega, by go_num, HN⟩
      case measure => simp [intOf]
    · have hix : ∀ W, (Instr.index 58 _ (.int .i64 1)).run Try.prog W = _ := ai 1 (tx [97, 98]) rfl
      go_wp2_with fail
      refine (HP.out (tx [97, 98]) (by decide)).mono ?_
      rintro e y ⟨rfl, t', hA', he, hb⟩
      have HN := Lib.hid (And.intro hA' (And.intro (show t'.ents = ex1 by rw [he, HS.out.2.1]; rfl) (HS.out.2.2.trans hb)))
      clear hA' he hb HS HP
      go_wp2_with fail
      go_roundw
      case rel => exact ⟨2, t', by omega, by go_num, HN⟩
      case measure => simp [intOf]
    · have hix : ∀ W, (Instr.index 58 _ (.int .i64 2)).run Try.prog W = _ := ai 2 (tx [97]) rfl
      go_wp2_with fail
      refine (HP.out (tx [97]) (by decide)).mono ?_
      rintro e y ⟨rfl, t', hA', he, hb⟩
      have HN := Lib.hid (And.intro hA' (And.intro (show t'.ents = ex2 by rw [he, HS.out.2.1]; rfl) (HS.out.2.2.trans hb)))
      clear hA' he hb HS HP
      go_wp2_with fail
      go_roundw
      case rel => exact ⟨3, t', by omega, by go_num, HN⟩
      case measure => simp [intOf]
    · have he : t.ents = ex2 := HS.out.2.1
      have hu := under_row HS.out.1.h (tx [97]) 9
      rw [he, ex_under] at hu
      have HU := Lib.hid hu
      have HE := Lib.hid he
      clear HP hu he
      go_wp2_with fail
      refine HU.out.mono ?_
      rintro e y ⟨v, rfl, ho, hb⟩
      obtain ⟨g, cap, rfl, -, hg, -, hc⟩ := own_open (n := 1) ho
      have q0 := hc 0 _ rfl
      have q2 := hc 2 _ rfl
      have z1 : ((tx [97]).toList == [97]) = true := by decide +kernel
      have z2 : ((tx [97, 98]).toList == [97, 98]) = true := by decide +kernel
      have hrk := rank_row (HS.out.1.on hb).h (tx [98])
      rw [HE.out, ex_rank] at hrk
      have HR := Lib.hid hrk
      have HB := Lib.hid (HS.out.2.2.trans (hb.mono HS.out.2.2.size))
      clear hrk hb ho hc hg
      go_wp2_with fail
      refine HR.out.mono ?_
      rintro e _ ⟨rfl, hx⟩
      rw [hx]
      clear hx
      go_wp2_with fail
      go_ret
      exact ⟨rfl, HB.out⟩
end Hg
end Go.Proofs.Ytldacdpejncbnaa
