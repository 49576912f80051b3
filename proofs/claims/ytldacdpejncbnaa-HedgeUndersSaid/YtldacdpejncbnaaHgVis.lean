/-
  Layer 15: a tree's entries are shown to a function, from a key on.
-/
import Derived.Test.YtldacdpejncbnaaHgFind
import Derived.Test.YtldacdpejncbnaaHgRun
namespace Go.Proofs.Ytldacdpejncbnaa
open Go.RowKit
namespace Hg
open Knot (Turns NewRow)

/-- A function's value. -/
abbrev fnv (f : FuncId) (cap : Array Value) : Value := .func (.func f) #[] cap
/-- How long a text may be that is copied. -/
def keyMax : Nat := 281474976710656
/-- What a function does that entries are shown to. -/
structure Vis (f : FuncId) (cap : Array Value) (want : List Ent → Ent → Bool) (J : List Ent → World → Prop) : Prop where
  enter : ∀ args x, (callFunc f args).run Try.prog x = .ok (.enter f args) x
  see : ∀ acc x (k : ByteArray) (a : Int), J acc x → acc.length ≤ 90000 → k.size ≤ keyMax → Calls Try.prog f (#[.agg #[.string k, .int .i64 a]] ++ cap) x fun e y => e = .returned (.bool (want acc (k, a))) ∧ J (if want acc (k, a) then acc ++ [(k, a)] else acc) y
/-- All keys may be. -/
def Fit (t : T) : Prop := ∀ e ∈ t.ents, e.1.size ≤ keyMax
set_option maxHeartbeats 4000000 in
set_option maxRecDepth 100000 in
theorem from_any {f : FuncId} {cap : Array Value} {want : List Ent → Ent → Bool} {J : List Ent → World → Prop} (hV : Vis f cap want J) : ∀ (t : T) (q : ByteArray) (acc : List Ent) (x : World), (∀ acc x, J acc x → IsT x t) → Fit t → J acc x → acc.length + t.size ≤ 90000 →
    Calls Try.prog 40 #[.pointer (loc t), .string q, fnv f cap] x fun e y => e = .returned (.bool (T.from_ want t q acc).1) ∧ J (T.from_ want t q acc).2 y
  | .nil, q, acc, x, _, _, hj, _ => by
    rw [show loc T.nil = none from rfl]
    have HJ := Lib.hid hj
    clear hj
    go_enter Try.func40, Try.ntmps40
    go_wp2_with fail
    go_ret
    exact ⟨rfl, HJ.out⟩
  | .bin b l k a r, q, acc, x, hT, hF, hj, hs => by
    have hFl : Fit l := fun e he => hF e (List.mem_append_left _ he)
    have hFr : Fit r := fun e he => hF e (List.mem_append_right _ (List.mem_cons_of_mem _ he))
    have hFk : k.size ≤ keyMax := hF (k, a) (List.mem_append_right _ List.mem_cons_self)
    have hTl : ∀ acc x, J acc x → IsT x l := fun acc x h => (hT acc x h).2.1
    have hTr : ∀ acc x, J acc x → IsT x r := fun acc x h => (hT acc x h).2.2
    obtain ⟨c0, c1, c2, c3, c4⟩ := (hT acc x hj).1.cells
    simp only [T.size] at hs
    have ihl := from_any hV l q acc x hTl hFl hj (by omega)
    have HN := Lib.hid (show ∀ acc x, J acc x → Nd x b k a ((l.size : Int) + 1 + (r.size : Int)) (loc l) (loc r) from fun acc x h => (hT acc x h).1)
    have HC := Lib.hid (fun W => Gl.flip (compare_any k q W))
    obtain ⟨d, hd⟩ : ∃ d, d = cmp k q := ⟨_, rfl⟩
    rw [← hd] at HC
    rw [show loc (.bin b l k a r) = some ⟨b, 0, none⟩ from rfl]
    by_cases c : d < 0
    · have ihr := from_any hV r q acc x hTr hFr hj (by omega)
      have he : T.from_ want (.bin b l k a r) q acc = T.from_ want r q acc := by rw [T.from_, if_pos (by omega)]
      rw [he]
      have HR := Lib.hid ihr
      clear hTl hTr hFl hFr hFk ihl ihr he hd hT hF hj hs
      go_enter Try.func40, Try.ntmps40
      go_wp2_with (go_at_call 36; refine (HC.out _).mono ?_; rintro e x ⟨rfl, rfl⟩)
      refine HR.out.mono ?_
      rintro e y ⟨rfl, hy⟩
      have HY := Lib.hid hy
      clear hy
      go_wp2_with fail
      go_ret
      exact ⟨rfl, HY.out⟩
    · have hl0 := T.from_len want l q acc
      have he : T.from_ want (.bin b l k a r) q acc = match T.from_ want l q acc with
          | (false, acc) => (false, acc)
          | (true, acc) => if want acc (k, a) then T.from_ want r ByteArray.empty (acc ++ [(k, a)]) else (false, acc) := by
        rw [T.from_, if_neg (by omega)]
        rcases T.from_ want l q acc with ⟨ok, acc⟩
        cases ok <;> rfl
      have ihr : ∀ acc x, J acc x → acc.length + r.size ≤ 90000 → _ := fun acc x hj hs => from_any hV r ByteArray.empty acc x hTr hFr hj hs
      rcases hl : T.from_ want l q acc with ⟨ok, acc1⟩
      rw [hl] at he ihl hl0
      cases ok with
      | false =>
        simp only at he
        rw [he]
        have HL := Lib.hid ihl
        clear hTl hTr hFl hFr hFk ihl ihr he hd hT hF hj hs hl hl0
        go_enter Try.func40, Try.ntmps40
        go_wp2_with (go_at_call 36; refine (HC.out _).mono ?_; rintro e x ⟨rfl, rfl⟩)
        refine HL.out.mono ?_
        rintro e y ⟨rfl, hy⟩
        have HY := Lib.hid hy
        clear hy
        go_wp2_with fail
        go_ret
        exact ⟨rfl, HY.out⟩
      | true =>
        simp only at he hl0
        have HS := Lib.hid (show ∀ x, J acc1 x → _ from fun x hj => hV.see acc1 x k a hj (by omega) hFk)
        have HE := hV.enter
        have HL := Lib.hid ihl
        cases hw : want acc1 (k, a) with
        | false =>
          rw [hw] at he HS
          simp only [Bool.false_eq_true, if_false] at he HS
          rw [he]
          clear hTl hTr hFl hFr hFk ihl ihr he hd hT hF hj hs hl hl0 hw
          go_enter Try.func40, Try.ntmps40
          go_wp2_with (go_at_call 36; refine (HC.out _).mono ?_; rintro e x ⟨rfl, rfl⟩)
          refine HL.out.mono ?_
          rintro e y ⟨rfl, hy⟩
          obtain ⟨e0, e1, e2, e3, e4⟩ := (HN.out acc1 y hy).cells
          have HQ := Lib.hid (HS.out y hy)
          clear hy
          go_wp2_with fail
          refine HQ.out.mono ?_
          rintro e z ⟨rfl, hz⟩
          have HY := Lib.hid hz
          clear hz
          go_wp2_with fail
          go_ret
          exact ⟨rfl, HY.out⟩
        | true =>
          rw [hw] at he HS
          simp only [if_true] at he HS
          rw [he]
          have HR := Lib.hid (show ∀ x, J (acc1 ++ [(k, a)]) x → _ from fun x hj => ihr (acc1 ++ [(k, a)]) x hj (by rw [List.length_append, List.length_singleton]; omega))
          clear hTl hTr hFl hFr hFk ihl ihr he hd hT hF hj hs hl hl0 hw
          go_enter Try.func40, Try.ntmps40
          go_wp2_with (go_at_call 36; refine (HC.out _).mono ?_; rintro e x ⟨rfl, rfl⟩)
          refine HL.out.mono ?_
          rintro e y ⟨rfl, hy⟩
          obtain ⟨e0, e1, e2, e3, e4⟩ := (HN.out acc1 y hy).cells
          have HQ := Lib.hid (HS.out y hy)
          clear hy
          go_wp2_with fail
          refine HQ.out.mono ?_
          rintro e z ⟨rfl, hz⟩
          obtain ⟨u0, u1, u2, u3, u4⟩ := (HN.out _ z hz).cells
          have HQ2 := Lib.hid (HR.out z hz)
          clear hz
          go_wp2_with fail
          refine HQ2.out.mono ?_
          rintro e v ⟨rfl, hv⟩
          have HY := Lib.hid hv
          clear hv
          go_wp2_with fail
          go_ret
          exact ⟨rfl, HY.out⟩
end Hg
end Go.Proofs.Ytldacdpejncbnaa
