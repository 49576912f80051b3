/-
  Layer 4 (knot): lists of tuples taken; and the document's Same of two lists that are alike.
-/
import Derived.Test.YtoeaapomjjclaaaDoorInE
import Derived.Test.YtoeaapomjjclaaaDoorTupsB
import Derived.Test.YtoeaapomjjclaaaDoorOrder
import Derived.Laws.StructEq
namespace Go.Proofs.YtoeaapomjjclaaaDoor
open Go.RowKit Go.Sort
namespace Knot
open Who (bs bs_list bs_size bs_self eq_of_list)
open Bond (L3 tupV)

theorem infoTuple : (Tryd.prog.info? 38).map (fun i => (i.zero, i.size, i.bytes)) = some (some (.agg zero6), 6, 96) := by kernel_rfl
theorem cells6_len (p : L3 × L3) : (cells6 p).length = 6 := rfl
theorem flat_cells_len : ∀ l : List (L3 × L3), (l.flatMap cells6).length = l.length * 6
  | [] => rfl
  | p :: l => by rw [List.flatMap_cons, List.length_append, cells6_len, flat_cells_len l, List.length_cons]; omega
theorem flat_cells_at : ∀ (l : List (L3 × L3)) (i : Nat) (h : i < l.length) (j : Nat) (u : Value), (cells6 l[i])[j]? = some u → (l.flatMap cells6)[i * 6 + j]? = some u
  | p :: l, 0, _, j, u, hu => by
    have hj : j < (cells6 p).length := (List.getElem?_eq_some_iff.1 hu).1
    rw [List.flatMap_cons, Nat.zero_mul, Nat.zero_add, List.getElem?_append_left hj]
    exact hu
  | p :: l, i + 1, h, j, u, hu => by
    have e : (i + 1) * 6 + j = (cells6 p).length + (i * 6 + j) := by rw [cells6_len]; omega
    rw [List.flatMap_cons, e, List.getElem?_append_right (Nat.le_add_right _ _), Nat.add_sub_cancel_left]
    exact flat_cells_at l i (by simpa using h) j u hu
/-- A list that the call owns lies in memory. -/
theorem tups_own {w : World} {B : Nat} {v : Value} {l : List (L3 × L3)} (h : w.ownsRow B 38 6 v l.length (l.flatMap cells6)) : IsTups w v l := by
  rcases h.2 with ⟨rfl, h0⟩ | ⟨g, cap, cur, rfl, hb, hg, hc, hm, hs, htk⟩
  · exact ⟨none, 0, by rw [h0], fun hl => absurd (List.eq_nil_of_length_eq_zero h0) hl⟩
  · refine ⟨_, cap, rfl, fun _ => ⟨g, 0, rfl, fun i hi j u hu => ?_⟩⟩
    have h1 := h.cells (g := g) rfl (i * 6 + j) u (flat_cells_at l i hi j u hu)
    rw [Lib.add_plain] at h1
    rw [Nat.zero_add] at h1 ⊢
    exact h1
theorem own_slice6 {w : World} {b n : Nat} {e : TypeId} {v : Value} {xs : List Value} (h : w.ownsRow b e 6 v n xs) : ∃ ao c, v = .slice ao n c := by
  rcases h.2 with ⟨rfl, rfl⟩ | ⟨g, cap, cur, rfl, _⟩
  · exact ⟨_, _, rfl⟩
  · exact ⟨_, _, rfl⟩
theorem own_turn6 {w x : World} {b n : Nat} {e : TypeId} {v : Value} {xs : List Value} {F : Nat → Prop} (h : w.ownsRow b e 6 v n xs) (ht : Turns F w x) (hF : ∀ k, v.ownBlock = some k → ¬ F k) : x.ownsRow b e 6 v n xs := by
  refine ⟨h.1, ?_⟩
  rcases h.2 with hn | ⟨g, cap, cur, rfl, hb, hg, r⟩
  · exact .inl hn
  · exact .inr ⟨g, cap, cur, rfl, hb, (ht.block g (Array.getElem?_eq_some_iff.1 hg).1 (hF g rfl)).trans hg, r⟩
/-- The cells of a new list of one tuple. -/
theorem six_new {W : World} {b : Nat} {p : L3 × L3} {T : TypeId} (hb : b = W.heap.size) : ∀ j u, (cells6 p)[j]? = some u → (W.alloc (.cells #[.string (bs p.1.1), .string (bs p.1.2.1), .string (bs p.1.2.2), .string (bs p.2.1), .string (bs p.2.2.1), .string (bs p.2.2.2)] T)).cell? ((⟨b, 0, none⟩ : Addr).add j) = some u := by
  subst hb
  intro j u hj
  rw [Lib.add_plain, Nat.zero_add, World.cell?_alloc_mark]
  simpa [cells6] using hj
theorem six_one (p : L3 × L3) : ∀ u ∈ cells6 p, u.oneCell' = true := by
  intro u hu
  simp only [cells6, List.mem_cons, List.not_mem_nil, or_false] at hu
  rcases hu with rfl | rfl | rfl | rfl | rfl | rfl <;> rfl
theorem flat_drop_more (l : List (L3 × L3)) (z : List UInt8) (k : Nat) (hk : k < l.length) : (l.drop k).flatMap tupleB ++ z = tupleB l[k] ++ ((l.drop (k + 1)).flatMap tupleB ++ z) := by
  rw [flat_drop l k hk, List.append_assoc]
theorem flat_take6 (l : List (L3 × L3)) (k : Nat) (hk : k < l.length) : (l.take (k + 1)).flatMap cells6 = (l.take k).flatMap cells6 ++ cells6 l[k] := by
  rw [List.take_succ_eq_append_getElem hk, List.flatMap_append, List.flatMap_cons, List.flatMap_nil, List.append_nil]
/-- Good tuples, whose texts are short. -/
def GoodAll (l : List (L3 × L3)) : Prop := ∀ p ∈ l, Bond.goodB p.1 p.2 = true ∧ Small 96 p.1 ∧ Small 96 p.2

set_option maxHeartbeats 4000000 in
set_option maxRecDepth 100000 in
theorem tuples_goes (I : Nat) (s : ByteArray) (ts : List (L3 × L3)) (z : List UInt8) (most : Int) (w : World) (h : Inn w I s false) (hs : s.data.toList = tuplesB ts ++ z) (hg : GoodAll ts) (hn : ts.length ≤ 1000000) (hm : (ts.length : Int) ≤ most) :
    Calls Tryd.prog 29 #[iptr I, .int .i64 most] w fun e x => ∃ v, e = .returned v ∧ x.ownsRow w.heap.size 38 6 v ts.length (ts.flatMap cells6) ∧ Inn x I (bs z) false ∧ Turns (At I) w x := by
  obtain ⟨i0, hi0, hz0, hz1, hz2⟩ := info_parts infoTuple
  have hI := h.lt
  have HN := Lib.hid (number_goes I ts.length s (ts.flatMap tupleB ++ z) false most w h (by rw [hs, tuplesB, List.append_assoc]) (by omega) hm)
  have HT := Lib.hid (fun (p : L3 × L3) (y : List UInt8) (W : World) (hp : p ∈ ts) (hW : Inn W I (bs (tupleB p ++ y)) false) =>
    show Calls Tryd.prog 28 #[iptr I] W fun e x => e = .returned (agg6 p) ∧ Inn x I (bs y) false ∧ Turns (At I) W x from
    tuple_goes I (bs (tupleB p ++ y)) p y W hW (by rw [bs_list]) (hg p hp).1 (hg p hp).2.1.1 (hg p hp).2.1.2.1 (hg p hp).2.1.2.2 (hg p hp).2.2.1 (hg p hp).2.2.2.1 (hg p hp).2.2.2.2)
  have HI0 := Lib.hid (And.intro hi0 (And.intro hz0 (And.intro hz1 hz2)))
  clear h hs hg hm hi0 hz0 hz1 hz2
  go_enter Tryd.func29, Tryd.ntmps29
  go_wp2_with fail
  refine HN.out.mono ?_
  rintro e w1 ⟨rfl, h1, t1⟩
  have H1 := Lib.hid (And.intro h1 t1)
  clear h1 t1 HN
  go_wp2
  go_loopw [6, 12] (fun a c wr => ∃ (k : Nat), c = .int .i64 k ∧ Hid (wr.ownsRow w.heap.size 38 6 a k ((ts.take k).flatMap cells6) ∧ Inn wr I (bs ((ts.drop k).flatMap tupleB ++ z)) false ∧ Turns (At I) w wr) ∧ k ≤ ts.length) (fun _ c _ => ts.length - (intOf c).toNat)
  case atStart => exact ⟨0, rfl, by exact Lib.hid ⟨World.ownsRow_nil _ _ _ _, by simpa using H1.out.1, H1.out.2⟩, by omega⟩
  case round =>
    obtain ⟨k, rfl, HK, hk⟩ := hrel
    by_cases hlt : k < ts.length
    · obtain ⟨ao, cp, rfl⟩ := own_slice6 HK.out.1
      have hin := HK.out.2.1
      rw [flat_drop_more ts z k hlt] at hin
      have C := Lib.hid (HT.out ts[k] _ wr (List.getElem_mem _) hin)
      clear hin
      go_wp2_with fail
      refine C.out.mono ?_
      rintro e w2 ⟨rfl, h2, t2⟩
      have l2 := h2.lt
      obtain ⟨-, ⟨c1, f1⟩⟩ := h2.cells
      have b3 : Below w2.heap.size w2 (w2.alloc (.cells #[.string (bs ts[k].1.1), .string (bs ts[k].1.2.1), .string (bs ts[k].1.2.2), .string (bs ts[k].2.1), .string (bs ts[k].2.2.1), .string (bs ts[k].2.2.2)] 38)) := (Below.refl _ _).alloc (Nat.le_refl _) _
      have zz := HK.out.2.2.size
      have zz2 := t2.size
      have o2 := own_turn6 HK.out.1 t2 (fun j hj e => by have := (HK.out.1.lt j hj).1; have e2 : j = I := e; omega)
      have H2 := Lib.hid (And.intro (o2.alloc (.cells #[.string (bs ts[k].1.1), .string (bs ts[k].1.2.1), .string (bs ts[k].1.2.2), .string (bs ts[k].2.1), .string (bs ts[k].2.2.1), .string (bs ts[k].2.2.2)] 38)) (And.intro (h2.below b3) ((HK.out.2.2.trans t2 fun _ _ h => h).then_below b3)))
      clear b3 h2 t2 C HK o2
      go_wp2_with (at_builtin; refine wpList_append_own _ rfl _ _ 22 rfl w.heap.size 38 i0 (.agg zero6) 6 96 Tryd.underlying22 HI0.out.1 HI0.out.2.1 HI0.out.2.2.1 HI0.out.2.2.2 rfl (by decide) _ _ _ rfl (H2.out.1.alloc _) ⟨w2.heap.size + 1, 0, none⟩ 1 1 (cells6 ts[k]) rfl rfl (six_new (by simp)) (six_one _) (by unfold maxLen; omega) (by omega) (by simp; omega) ?_)
      intro v3 w3 o3 g3 _
      have b4 : Below (w2.alloc (.cells #[.string (bs ts[k].1.1), .string (bs ts[k].1.2.1), .string (bs ts[k].1.2.2), .string (bs ts[k].2.1), .string (bs ts[k].2.2.1), .string (bs ts[k].2.2.2)] 38)).heap.size (w2.alloc (.cells #[.string (bs ts[k].1.1), .string (bs ts[k].1.2.1), .string (bs ts[k].1.2.2), .string (bs ts[k].2.1), .string (bs ts[k].2.2.1), .string (bs ts[k].2.2.2)] 38)) ((w2.alloc (.cells #[.string (bs ts[k].1.1), .string (bs ts[k].1.2.1), .string (bs ts[k].1.2.2), .string (bs ts[k].2.1), .string (bs ts[k].2.2.1), .string (bs ts[k].2.2.2)] 38)).alloc (.cells #[.string (bs ts[k].1.1), .string (bs ts[k].1.2.1), .string (bs ts[k].1.2.2), .string (bs ts[k].2.1), .string (bs ts[k].2.2.1), .string (bs ts[k].2.2.2)] 38)) := (Below.refl _ _).alloc (Nat.le_refl _) _
      have h4 := H2.out.2.1.below b4
      have t4 := H2.out.2.2.then_below b4
      have hrow : ∀ j, (Value.slice ao k cp).ownBlock = some j → w.heap.size ≤ j := fun j hj => (H2.out.1.lt j hj).1
      have h5 := h4.keep (Turns.of_grown (F := fun j => w.heap.size ≤ j) g3 hrow) (by omega)
      have t5 : Turns (At I) w w3 := t4.trans (Turns.of_grown (F := fun j => w.heap.size ≤ j) g3 hrow) (fun j hj hf => by omega)
      have H5 := Lib.hid (And.intro o3 (And.intro h5 t5))
      clear o3 g3 b4 h4 t4 hrow h5 t5 H2 c1 f1
      go_wp2
      go_roundw
      case rel => exact ⟨k + 1, by go_num, by rw [flat_take6 ts k hlt]; exact Lib.hid H5.out, by omega⟩
      case measure => simp [intOf]; omega
    · have hke : k = ts.length := by omega
      subst hke
      obtain ⟨ao, cp, rfl⟩ := own_slice6 HK.out.1
      go_wp2
      go_ret
      have hk2 := HK.out
      rw [List.take_length, List.drop_length, List.flatMap_nil, List.nil_append] at hk2
      exact ⟨_, rfl, hk2⟩
end Knot
end Go.Proofs.YtoeaapomjjclaaaDoor
