/-
  Layer 14: the program's keep: an image is written, sector by sector, and its mark set.
-/
import Derived.Test.YtkfmmdiflbnhgaaHoPut
import Derived.Test.YtkfmmdiflbnhgaaHoChk
namespace Go.Proofs.Ytkfmmdiflbnhgaa
set_option maxRecDepth 100000
open Go.RowKit Go.Shelf
open Knot (Turns)
open Ta (IsBytes Stay sec nul ptr IsT C5 Tray Grow)
attribute [local go_sem] Oper.semAt_some
namespace Ho
/-! ### pure -/
section
variable (a : Nat) (b : List UInt8) (t : Tray (List UInt8))
/-- The sectors of a list are written, one behind the other, from a on. -/
def pt (l : List Nat) : Tray (List UInt8) := (l.foldl (fun (s : Nat × Tray (List UInt8)) j => (s.1 + 1, s.2.put ((a + s.1 : Nat) : Int) (Ta.pad (chk b j)))) (0, t)).2
theorem pt_count : ∀ (l : List Nat) (c : Nat) (u : Tray (List UInt8)), (l.foldl (fun (s : Nat × Tray (List UInt8)) j => (s.1 + 1, s.2.put ((a + s.1 : Nat) : Int) (Ta.pad (chk b j)))) (c, u)).1 = c + l.length
  | [], c, u => rfl
  | j :: l, c, u => by
    rw [List.foldl_cons, pt_count l]
    simp only [List.length_cons]
    omega
theorem pt_snoc (l : List Nat) (j : Nat) : pt a b t (l ++ [j]) = (pt a b t l).put ((a + l.length : Nat) : Int) (Ta.pad (chk b j)) := by
  unfold pt
  rw [List.foldl_append]
  have := pt_count a b l 0 t
  rw [Nat.zero_add] at this
  simp only [List.foldl_cons, List.foldl_nil, this]
/-- No step was refused. -/
def Goes (l : List Nat) : Prop := ∀ k, k < l.length → (pt a b t (l.take k)).left ≠ 0
theorem Goes.snoc {l : List Nat} (h : Goes a b t l) (h0 : (pt a b t l).left ≠ 0) (j : Nat) : Goes a b t (l ++ [j]) := fun k hk => by
  rw [List.length_append, List.length_singleton] at hk
  by_cases e : k = l.length
  · rw [e, List.take_left' rfl]
    exact h0
  · rw [List.take_append_of_le_length (by omega)]
    exact h k (by omega)
theorem fwr_upto (N : Nat) : ∀ i, i ≤ N → Goes a b t (List.range i) → fwr a b N 0 t = fwr a b (N - i) i (pt a b t (List.range i))
  | 0, _, _ => rfl
  | i + 1, hi, h => by
    have h' : Goes a b t (List.range i) := fun k hk => by
      have := h k (by simp at hk ⊢; omega)
      rwa [List.range_succ, List.take_append_of_le_length (by simp at hk ⊢; omega)] at this
    have h0 : (pt a b t (List.range i)).left ≠ 0 := by
      have := h i (by simp)
      rwa [List.range_succ, List.take_left' (by simp)] at this
    rw [fwr_upto N i (by omega) h', show N - i = (N - (i + 1)) + 1 by omega, fwr_go h0, List.range_succ, pt_snoc, List.length_range]
theorem fwr_all {N : Nat} (h : Goes a b t (List.range N)) : fwr a b N 0 t = (pt a b t (List.range N), true) := by
  rw [fwr_upto a b t N N (Nat.le_refl _) h, Nat.sub_self]
  rfl
theorem fwr_part {N i : Nat} (hi : i < N) (h : Goes a b t (List.range i)) (h0 : (pt a b t (List.range i)).left = 0) : fwr a b N 0 t = ((pt a b t (List.range i)).dim, false) := by
  rw [fwr_upto a b t N i (by omega) h, show N - i = (N - (i + 1)) + 1 by omega, fwr_stop h0]
theorem pt_few : ∀ (l : List Nat) (c : Nat) (u : Tray (List UInt8)), (l.foldl (fun (s : Nat × Tray (List UInt8)) j => (s.1 + 1, s.2.put ((a + s.1 : Nat) : Int) (Ta.pad (chk b j)))) (c, u)).2.cache.length ≤ u.cache.length + l.length
  | [], c, u => Nat.le_add_right _ _
  | j :: l, c, u => by
    rw [List.foldl_cons, List.length_cons]
    have h1 := pt_few l (c + 1) (u.put ((a + c : Nat) : Int) (Ta.pad (chk b j)))
    have h2 : (u.put ((a + c : Nat) : Int) (Ta.pad (chk b j))).cache.length ≤ u.cache.length + 1 := by
      unfold Tray.put
      split
      · exact Nat.le_succ _
      · simp
    simp only at h1 ⊢
    omega
theorem pt_cache (l : List Nat) : (pt a b t l).cache.length ≤ t.cache.length + l.length := pt_few a b l 0 t
end
theorem _root_.Go.Proofs.Ytkfmmdiflbnhgaa.Ta.IsT.small {w : World} {p n : Nat} {t : Tray (List UInt8)} {F : Nat → Prop} (h : IsT w p n t F) : ∃ F0 : Nat → Prop, (∀ k, F0 k → F k) ∧ IsT w p n t F0 ∧ ∀ k, F0 k → ∃ o : Obj, w.heap[k]? = some o ∧ o.isCells = true := by
  obtain ⟨gn, cn, gk, ck, cv, hl⟩ := h.mem
  have hs : ∀ k, (k = p ∨ k = gn ∨ k = gk ∨ cv.ownBlock = some k) → F k := fun k hk => by
    rcases hk with rfl | rfl | rfl | hk
    · exact h.fp
    · exact hl.fn
    · exact hl.fk
    · exact hl.fc k hk
  refine ⟨fun k => k = p ∨ k = gn ∨ k = gk ∨ cv.ownBlock = some k, hs, ⟨h.num, h.left, h.lenk, h.lenc, fun k hk => h.low k (hs k hk), .inl rfl, gn, cn, gk, ck, cv, ⟨hl.box, hl.now, hl.kept, hl.cache, .inr (.inl rfl), .inr (.inr (.inl rfl)), fun k hk => .inr (.inr (.inr hk)), hl.ne⟩⟩, fun k hk => ?_⟩
  rcases hk with rfl | rfl | rfl | hk
  · exact ⟨_, hl.box, rfl⟩
  · obtain ⟨c, hc⟩ := Ta.own_heap hl.now (g := k) rfl
    exact ⟨_, hc, rfl⟩
  · obtain ⟨c, hc⟩ := Ta.own_heap hl.kept (g := k) rfl
    exact ⟨_, hc, rfl⟩
  · obtain ⟨c, hc⟩ := Ta.own_heap hl.cache hk
    exact ⟨_, hc, rfl⟩
/-- Under way: the tray, in blocks of cells; which blocks may have turned; the place, and the result. -/
structure Wi (L : World) (p n : Nat) (F : Nat → Prop) (At Rb : Nat) (z : Int) (u : Tray (List UInt8)) (W : World) : Prop where
  tray : ∃ F', IsT W p n u F' ∧ (∀ k, F' k → F k ∨ L.heap.size ≤ k) ∧ ∀ k, F' k → ∃ o : Obj, W.heap[k]? = some o ∧ o.isCells = true
  turn : Turns (fun k => F k ∨ k = At ∨ k = Rb ∨ L.heap.size ≤ k) L W
  at_ : W.heap[At]? = some (.cells #[.int .i64 z] 3 (0, 0))
  res : W.heap[Rb]? = some (.cells #[.bool false] 4 (0, 0))
theorem Wi.own {L W W' : World} {p n At Rb : Nat} {F : Nat → Prop} {z : Int} {u : Tray (List UInt8)} {row : Option Nat} (h : Wi L p n F At Rb z u W) (hg : W.grownBy W' row) (hr : ∀ r, row = some r → L.heap.size ≤ r ∧ ∃ o : Obj, W.heap[r]? = some o ∧ o.isCells = false) : Wi L p n F At Rb z u W' := by
  have ht : Turns (fun k => row = some k) W W' := Turns.of_grown hg fun k hk => hk
  have hno : ∀ {k o}, W.heap[k]? = some o → o.isCells = true → ¬ row = some k := fun h1 h2 e => by
    obtain ⟨o', h3, h4⟩ := (hr _ e).2
    rw [h1] at h3
    obtain rfl := Option.some.inj h3
    rw [h2] at h4
    cases h4
  obtain ⟨F', hi, hF, hc⟩ := h.tray
  refine ⟨⟨F', hi.turn ht fun k hk => ?_, hF, fun k hk => ?_⟩, h.turn.trans ht fun k hk e => .inr (.inr (.inr (hr k e).1)), ht.heap h.at_ (hno h.at_ rfl), ht.heap h.res (hno h.res rfl)⟩
  · obtain ⟨o, h1, h2⟩ := hc k hk
    exact hno h1 h2
  · obtain ⟨o, h1, h2⟩ := hc k hk
    exact ⟨o, ht.heap h1 (hno h1 h2), h2⟩
section
variable {L W x : World} {p n At Rb : Nat} {F F' : Nat → Prop} {z : Int} {u u' : Tray (List UInt8)}
/-- The tray has been written to. -/
theorem Wi.wrote (h : Wi L p n F At Rb z u W) (hA : ¬ F At ∧ At < L.heap.size) (hR : ¬ F Rb ∧ Rb < L.heap.size) (hF : ∀ k, F' k → F k ∨ L.heap.size ≤ k) (ht : Turns F' W x) {G : Nat → Prop} (hi : IsT x p n u' G) (hG : ∀ k, G k → F' k ∨ W.heap.size ≤ k) : Wi L p n F At Rb z u' x := by
  obtain ⟨F0, f1, f2, f3⟩ := hi.small
  have hs := h.turn.size
  refine ⟨⟨F0, f2, fun k hk => ?_, f3⟩, h.turn.trans ht fun k _ hk => ?_, ht.heap h.at_ fun hk => ?_, ht.heap h.res fun hk => ?_⟩
  · rcases hG k (f1 k hk) with h1 | h1
    · exact hF k h1
    · exact .inr (Nat.le_trans hs h1)
  · rcases hF k hk with h1 | h1
    · exact .inl h1
    · exact .inr (.inr (.inr h1))
  · rcases hF _ hk with h1 | h1
    · exact hA.1 h1
    · have := hA.2; omega
  · rcases hF _ hk with h1 | h1
    · exact hR.1 h1
    · have := hR.2; omega
theorem Wi.step (h : Wi L p n F At Rb z u W) (hA : ¬ F At ∧ At < L.heap.size) (hne : At ≠ Rb) (z' : Int) : Wi L p n F At Rb z' u (W.setCell ⟨At, 0, none⟩ (.int .i64 z')) := by
  have ht : Turns (fun k => k = At) W (W.setCell ⟨At, 0, none⟩ (.int .i64 z')) := (Turns.refl (fun k => k = At) W).setCell (p := ⟨At, 0, none⟩) rfl _
  obtain ⟨F0, f2, f1, f3⟩ := h.tray
  have hno : ∀ k, F0 k → ¬ k = At := fun k hk e => by
    subst e
    rcases f1 _ hk with h1 | h1
    · exact hA.1 h1
    · have := hA.2; omega
  refine ⟨⟨F0, f2.turn ht hno, f1, fun k hk => ?_⟩, h.turn.trans ht fun k _ hk => .inr (.inl hk), ?_, ht.heap h.res (Ne.symm hne)⟩
  · obtain ⟨o, h1, h2⟩ := f3 k hk
    exact ⟨o, ht.heap h1 (hno k hk), h2⟩
  · rw [heap_setCell_same W At 0 _ _ _ h.at_]
    rfl
theorem Wi.no (h : Wi L p n F At Rb z u W) (hR : ¬ F Rb ∧ Rb < L.heap.size) (hne : At ≠ Rb) : Wi L p n F At Rb z u (W.setCell ⟨Rb, 0, none⟩ (.bool false)) := by
  have ht : Turns (fun k => k = Rb) W (W.setCell ⟨Rb, 0, none⟩ (.bool false)) := (Turns.refl (fun k => k = Rb) W).setCell (p := ⟨Rb, 0, none⟩) rfl _
  obtain ⟨F0, f2, f1, f3⟩ := h.tray
  have hno : ∀ k, F0 k → ¬ k = Rb := fun k hk e => by
    subst e
    rcases f1 _ hk with h1 | h1
    · exact hR.1 h1
    · have := hR.2; omega
  refine ⟨⟨F0, f2.turn ht hno, f1, fun k hk => ?_⟩, h.turn.trans ht fun k _ hk => .inr (.inr (.inl hk)), ht.heap h.at_ hne, ?_⟩
  · obtain ⟨o, h1, h2⟩ := f3 k hk
    exact ⟨o, ht.heap h1 (hno k hk), h2⟩
  · rw [heap_setCell_same W Rb 0 _ _ _ h.res]
    rfl
theorem keeps_of (B : Nat) (ht : Turns F' W x) (hc : ∀ k, F' k → ∃ o : Obj, W.heap[k]? = some o ∧ o.isCells = true) : KeepsFrom B W x := ⟨ht.size, fun k o _ h1 h2 => ht.heap h1 fun hk => by
  obtain ⟨o', h3, h4⟩ := hc k hk
  rw [h1] at h3
  obtain rfl := Option.some.inj h3
  rw [h2] at h4
  cases h4⟩
theorem put_turns (W : World) (D : Nat) (o : Obj) : Turns (fun k => k = D) W (W.putObj D o) := Turns.of_grown (grownBy_putObj' W D o) fun _ e => (Option.some.inj e).symm
theorem kq_of {Bs Bn : Nat} (ht : Turns F' W x) (h1 : Bs < W.heap.size ∧ ¬ F' Bs) (h2 : Bn < W.heap.size ∧ ¬ F' Bn) : Kq Bs Bn W x := ⟨ht.block Bs h1.1 h1.2, ht.block Bn h2.1 h2.2⟩
end
end Ho
end Go.Proofs.Ytkfmmdiflbnhgaa
