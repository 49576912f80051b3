/-
  Layer 14's statements: lists of acts: an act out of a list; whether they are few.
-/
import Derived.Test.YtkfmmdiflbnhgaaHoArg
import Derived.Test.YtkfmmdiflbnhgaaHoSt
namespace Go.Proofs.Ytkfmmdiflbnhgaa
set_option maxRecDepth 100000
open Go.RowKit
open Knot (Turns NewRow)
open Ta (IsBytes IsFlags IsAct IsActs)
namespace Ho
abbrev tAc : TypeId := 85
section
variable {w x : World}
theorem act_at {v : Value} {l : List Ta.Act} (h : IsActs w v l) (hbl : Below w.heap.size w x) {j : Nat} (hj : j < l.length) : ∃ g q, (∀ W, (Instr.indexAt 74 v (.int .i64 (j : Int))).run Try.prog W = .ok (.pointer (some ⟨g, q, none⟩)) W) ∧
    ∃ ob oc cb cc, x.cell? ⟨g, q, none⟩ = some (.int .i64 l[j].kind) ∧ x.cell? ⟨g, q + 1, none⟩ = some (.int .i64 l[j].at_) ∧ x.cell? ⟨g, q + 2, none⟩ = some (.slice ob l[j].b.length cb) ∧ x.cell? ⟨g, q + 3, none⟩ = some (.slice oc l[j].c.length cc) ∧
      IsBytes w (.slice ob l[j].b.length cb) l[j].b ∧ IsFlags w (.slice oc l[j].c.length cc) l[j].c := by
  obtain ⟨ao, cap, rfl, h1, h2, h3⟩ := h
  obtain ⟨g, o, rfl, hc⟩ := h3 (fun e => by rw [e] at hj; simp at hj)
  obtain ⟨cs, ⟨vb, vc, rfl, hb, hf, -⟩, hx⟩ := hc j hj
  refine ⟨g, o + j * 4, fun W => ?_, ?_⟩
  · have hz : ∀ w, (sizeOf (Try.prog.elem 74)).run Try.prog w = .ok 4 w := fun w => by kernel_rfl
    have : l.length ≤ 9223372036854775807 := Nat.le_trans h1 (Nat.le_trans h2 (by decide))
    rw [run_indexAt_slice W _ _ _ _ _ _ Try.underlying74, if_pos ⟨by omega, by omega⟩, hz]
    have e : ((j : Int)).toNat = j := by omega
    simp only [Result.andThen_ok, e, Addr.add_lit]
  · obtain ⟨ob, cb, rfl, r1⟩ := hb
    obtain ⟨oc, cc, rfl, r2⟩ := hf
    have hx' : ∀ j' u, [Value.int .i64 l[j].kind, .int .i64 l[j].at_, .slice ob l[j].b.length cb, .slice oc l[j].c.length cc][j']? = some u → x.cell? ⟨g, o + j * 4 + j', none⟩ = some u := fun j' u hu => (hbl.cell (World.block_lt_of_cell? w _ (hx j' u hu))).trans (hx j' u hu)
    have x0 := hx' 0 _ rfl
    rw [Nat.add_zero] at x0
    exact ⟨ob, oc, cb, cc, x0, hx' 1 _ rfl, hx' 2 _ rfl, hx' 3 _ rfl, ⟨ob, cb, rfl, r1⟩, ⟨oc, cc, rfl, r2⟩⟩
theorem acts_len {v : Value} {l : List Ta.Act} (h : IsActs w v l) : ∃ ao cap, v = .slice ao l.length cap ∧ l.length ≤ 9223372036854775807 := by
  obtain ⟨ao, cap, rfl, h1, h2, -⟩ := h
  exact ⟨ao, cap, rfl, Nat.le_trans h1 (Nat.le_trans h2 (by decide))⟩
/-- Few acts, none of them long. -/
def Few (l : List Ta.Act) : Prop := l.length ≤ 30 ∧ ∀ a ∈ l, a.b.length ≤ 3000 ∧ a.c.length ≤ 200
instance (l : List Ta.Act) : Decidable (Few l) := by unfold Few; infer_instance
set_option maxHeartbeats 8000000 in
set_option maxRecDepth 100000 in
theorem few_any (v : Value) (l : List Ta.Act) (h : IsActs w v l) : Calls Try.prog 38 #[v] w fun e x => e = .returned (.bool (decide (Few l))) ∧ Below w.heap.size w x := by
  have H := Lib.hid h
  obtain ⟨ao, cap, rfl, hlen⟩ := acts_len h
  clear h
  go_enter Try.func38, Try.ntmps38
  go_wp2_with fail
  go_loopw [7] (fun i x => ∃ j : Nat, j ≤ l.length ∧ i = .int .i64 (j : Int) ∧ Hid (Below w.heap.size w x ∧ ∀ a ∈ l.take j, a.b.length ≤ 3000 ∧ a.c.length ≤ 200)) (fun i _ => l.length - (intOf i).toNat)
  case atStart => exact ⟨0, by omega, rfl, Below.refl _ _, by simp⟩
  case round =>
    obtain ⟨j, hj, rfl, HX⟩ := hrel
    by_cases hlt : j < l.length
    · obtain ⟨g, q, hix, ob, oc, cb, cc, a0, a1, a2, a3, -, -⟩ := act_at H.out HX.out.1 hlt
      have HM := Lib.hid (And.intro (List.getElem_mem hlt) (List.take_succ_eq_append_getElem hlt))
      generalize l[j] = ac at *
      obtain ⟨kd, at_, bb, fc⟩ := ac
      simp only at a0 a1 a2 a3
      have hal : Below wr.heap.size wr (wr.alloc (.cells #[.int .i64 kd, .int .i64 at_, .slice ob bb.length cb, .slice oc fc.length cc] tAc)) := (Below.refl _ _).alloc (Nat.le_refl _) _
      have HB := Lib.hid (HX.out.1.trans (hal.mono HX.out.1.size))
      clear hal
      by_cases hb : 3000 < bb.length
      · have e1 : (3000 : Int) < (bb.length : Int) := by omega
        have HF := Lib.hid (show decide (Few l) = false from decide_eq_false fun h => by have := (h.2 _ HM.out.1).1; simp only at this; omega)
        clear hb
        go_wp2_with fail
        go_ret
        exact ⟨by rw [HF.out]; rfl, HB.out⟩
      · have e1 : ¬ (3000 : Int) < (bb.length : Int) := by omega
        by_cases hf : 200 < fc.length
        · have e2 : (200 : Int) < (fc.length : Int) := by omega
          have HF := Lib.hid (show decide (Few l) = false from decide_eq_false fun h => by have := (h.2 _ HM.out.1).2; simp only at this; omega)
          clear hb hf
          go_wp2_with fail
          go_ret
          exact ⟨by rw [HF.out]; rfl, HB.out⟩
        · have e2 : ¬ (200 : Int) < (fc.length : Int) := by omega
          have HL := Lib.hid (And.intro hb hf)
          clear hb hf
          go_wp2_with fail
          go_roundw
          case rel =>
            refine ⟨j + 1, by omega, by go_num, HB.out, fun a ha => ?_⟩
            rw [HM.out.2] at ha
            rcases List.mem_append.1 ha with ha | ha
            · exact HX.out.2 a ha
            · rw [List.mem_singleton] at ha
              subst ha
              have := HL.out
              exact ⟨by show bb.length ≤ 3000; omega, by show fc.length ≤ 200; omega⟩
          case measure => simp [intOf]; omega
    · have hjl : j = l.length := by omega
      have HA := Lib.hid (show ∀ a ∈ l, a.b.length ≤ 3000 ∧ a.c.length ≤ 200 from by have h := HX.out.2; rwa [hjl, List.take_length] at h)
      have hnl : ¬ (j : Int) < (l.length : Int) := by omega
      clear hlt hjl
      by_cases h30 : l.length ≤ 30
      · have e30 : decide (l.length ≤ 30) = true := decide_eq_true h30
        have e31 : (l.length : Int) ≤ 30 := by omega
        have HF := Lib.hid (show decide (Few l) = true from decide_eq_true ⟨h30, HA.out⟩)
        clear h30
        go_wp2_with fail
        go_ret
        exact ⟨by rw [HF.out]; first | rfl | simp [e31], HX.out.1⟩
      · have e31 : ¬ (l.length : Int) ≤ 30 := by omega
        have HF := Lib.hid (show decide (Few l) = false from decide_eq_false fun h => h30 h.1)
        clear h30
        go_wp2_with fail
        go_ret
        exact ⟨by rw [HF.out]; first | rfl | (simp; omega), HX.out.1⟩
end
end Ho
end Go.Proofs.Ytkfmmdiflbnhgaa
