/-
  Layer 7 (grammar): at; errors.Is on the reader's errors.
-/
import Derived.Test.YtopncohhagebbaaGreatDoorMgGr
import Derived.Test.YtopncohhagebbaaGreatDoorMgPure
import Derived.Test.YtopncohhagebbaaGreatDoorIs
namespace Go.Proofs.YtopncohhagebbaaGreatDoor
open Go.RowKit
namespace Gr
open Knot (Turns NewRow)
open Tr (Nd none0 node4 own_slice)
open Sg (Tok kt plV TokAt)

theorem is_wrong {c : Ctx} {w : World} (h : Env c w) (n : Nat) :
    Calls Tryz.prog 94 #[errV c n, errV c 11] w fun e w' => e = .returned (.bool (n == 11)) ∧ w' = w := by
  obtain ⟨ca, ta, ha⟩ := h.b0
  obtain ⟨cb, tb, hb⟩ := h.b1
  by_cases h0 : n = 0
  · subst h0
    exact Is.is_nil c.a0 w
  · by_cases h1 : n = 11
    · subst h1
      exact Is.is_same c.a0 w
    · have e : errV c n = sent c.a1 := by unfold errV; rw [if_neg h0, if_neg h1]
      rw [e, beq_eq_false_iff_ne.2 h1]
      exact Is.is_other c.a1 c.a0 _ _ _ _ w (fun e => h.ne e.symm) hb ha
theorem is_deep {c : Ctx} {w : World} (h : Env c w) (n : Nat) (hn : n = 0 ∨ n = 11 ∨ n = 12) :
    Calls Tryz.prog 94 #[errV c n, errV c 12] w fun e w' => e = .returned (.bool (n == 12)) ∧ w' = w := by
  obtain ⟨ca, ta, ha⟩ := h.b0
  obtain ⟨cb, tb, hb⟩ := h.b1
  rcases hn with rfl | rfl | rfl
  · exact Is.is_nil c.a1 w
  · exact Is.is_other c.a0 c.a1 _ _ _ _ w h.ne ha hb
  · exact Is.is_same c.a1 w
theorem place_nil {l : List Tok} {s : St} (e : Nat × Nat) (h : s.rest = []) : place l s e = e := by
  unfold place
  rw [h, List.length_nil, Nat.sub_zero, List.drop_length]
theorem place_some {l : List Tok} {s : St} (e : Nat × Nat) (h : l.length - s.rest.length < l.length) : place l s e = l[l.length - s.rest.length].at' := by
  unfold place
  rw [List.drop_eq_getElem_cons h]
set_option maxHeartbeats 1000000 in
set_option maxRecDepth 100000 in
theorem at_any {c : Ctx} {o : Nat} {s : St} {x : World} (h : Rd c o s x) :
    Calls Tryz.prog 95 #[.pointer (some ⟨c.R, 0, none⟩)] x fun e y => e = .returned (plV (place c.L s c.e)) ∧ Below x.heap.size x y := by
  obtain ⟨ao, cap, hb, hcap, hao⟩ := h.box
  have hlt := h.lt
  have al : ∀ p : Nat × Nat, Below x.heap.size x (x.alloc (.cells #[.int .i64 (p.1 : Nat), .int .i64 (p.2 : Nat)] 73)) := fun p => (Below.refl _ _).alloc (Nat.le_refl _) _
  have al0 : Below x.heap.size x (x.alloc (.cells #[.int .i64 0, .int .i64 0] 73)) := (Below.refl _ _).alloc (Nat.le_refl _) _
  obtain ⟨c0, c1, c2, -, -⟩ := rdb_cells hb
  have HB := Lib.hid (And.intro al0 al)
  have k0 := (al0.cell (p := ⟨c.R, 0, none⟩) hlt).trans c0
  have k1 := (al0.cell (p := ⟨c.R, 1, none⟩) hlt).trans c1
  have k2 := (al0.cell (p := ⟨c.R, 2, none⟩) hlt).trans c2
  cases s with
  | mk rest err =>
  cases rest with
  | nil =>
    rw [place_nil c.e rfl]
    clear h hb hcap hao al al0 hlt c0 c1 c2
    simp only [List.length_nil] at k0
    obtain ⟨g0, g1⟩ := (Sg.PlB.new x c.e).cells
    go_enter Tryz.func95, Tryz.ntmps95
    go_wp2_with fail
    exact bodyPost_ret (v := plV c.e) (by simp [results, Tryz.results95, go_sem, plV, g0, g1]) rfl ⟨rfl, HB.out.2 c.e⟩
  | cons t r =>
    obtain ⟨hj, ht⟩ := h.head rfl
    obtain ⟨hG, -, -, q2, q3⟩ := h.env.toks _ hj
    have m2 := (al0.cell (p := ⟨c.G, (c.L.length - (t :: r).length) * 4 + 2, none⟩) hG).trans q2
    have m3 := (al0.cell (p := ⟨c.G, (c.L.length - (t :: r).length) * 4 + 3, none⟩) hG).trans q3
    rw [place_some c.e hj]
    simp only at *
    obtain rfl := hao (by simp)
    have hix := index0 (g := c.G) (o := (c.L.length - (t :: r).length) * 4) (n := (t :: r).length) (cap := cap) (by simp)
    have e2 : (((t :: r).length : Int) == 0) = false := by simp; omega
    clear h hb hcap hao ht al al0 hlt c0 c1 c2 q2 q3
    generalize c.L[c.L.length - (t :: r).length].at' = p at *
    clear hj
    generalize (t :: r).length = n at *
    obtain ⟨g0, g1⟩ := (Sg.PlB.new x p).cells
    go_enter Tryz.func95, Tryz.ntmps95
    go_wp2_with fail
    exact bodyPost_ret (v := plV p) (by simp [results, Tryz.results95, go_sem, plV, g0, g1]) rfl ⟨rfl, HB.out.2 p⟩
end Gr
end Go.Proofs.YtopncohhagebbaaGreatDoor
