/-
  Layer 12, TrayPlays: the program's tray and the document's, side by side.
-/
import Derived.Test.YtdodmjcbjknneaaTaDput
namespace Go.Proofs.Ytdodmjcbjknneaa
set_option maxRecDepth 100000
open Go.RowKit
namespace Ta
open Knot (Turns NewRow)
open Tr (IsElem append_rows walk_rows own_turn own_below own_slice own_open addp)
abbrev tBy : TypeId := 5
abbrev tBs : TypeId := 22
section
variable {w x y z Y z1 z2 : World} {p R n j j' : Nat} {t t' : Tray (List UInt8)} {F F' G : Nat → Prop} {kv cv kv' cv' : Value}
/-- Both trays behind j acts: the program's lies in F; the document's in a box R, its lists stay, whatever of G, and of R, turns. -/
structure Pl (w y : World) (p R n : Nat) (t : Tray (List UInt8)) (F G : Nat → Prop) (kv cv : Value) (j : Nat) : Prop where
  below : Below w.heap.size w y
  is : IsT y p n t F
  sub : ∀ k, F k → G k
  low : ∀ k, G k → k < y.heap.size
  new : ∀ k, G k → w.heap.size ≤ k
  few : t.kept.length + t.cache.length ≤ j
  box : C5 R tTr (.int .i64 n) kv cv (.int .i64 t.left) (.bool t.dark) y
  off : w.heap.size ≤ R ∧ ¬ G R
  dk : Stay (fun k => G k ∨ k = R) y fun x => IsW x kv t.kept
  dc : Stay (fun k => G k ∨ k = R) y fun x => IsW x cv t.cache
theorem Pl.on (h : Pl w y p R n t F G kv cv j) (hb : Below y.heap.size y z) : Pl w z p R n t F G kv cv j :=
  ⟨h.below.trans (hb.mono h.below.size), h.is.below hb, h.sub, fun k hk => Nat.lt_of_lt_of_le (h.low k hk) hb.size, h.new, h.few, h.box.on hb, h.off, h.dk.below hb, h.dc.below hb⟩
theorem Pl.more (h : Pl w y p R n t F G kv cv j) (hj : j ≤ j') : Pl w y p R n t F G kv cv j' := { h with few := Nat.le_trans h.few hj }
/-- A block of the call's own, that neither tray lies in, turns. -/
theorem Pl.scratch {g : Nat} (h : Pl w y p R n t F G kv cv j) (hg : G g) (hn : ¬ F g) (ht : Turns (fun k => k = g) y z) : Pl w z p R n t F G kv cv j := by
  have hR : g ≠ R := fun e => h.off.2 (e ▸ hg)
  have ht' : Turns (fun k => G k ∨ k = R) y z := ht.mono fun _ _ e => .inl (e ▸ hg)
  exact ⟨h.below.trans (ht.below h.below.size fun k e => by rw [e]; exact h.new g hg), h.is.turn ht fun k hk e => hn (e ▸ hk), h.sub, fun k hk => Nat.lt_of_lt_of_le (h.low k hk) ht.size, h.new, h.few, h.box.turn ht fun e => hR e.symm, h.off, h.dk.turn ht', h.dc.turn ht'⟩
/-- The document's tray, when blocks of G have turned, and others have come. -/
theorem Pl.doc (h : Pl w Y p R n t F G kv cv j) (ht : Turns G Y z1) : IsD (fun k => Grow G Y z1 k ∨ k = R) z1 (trV n kv cv t.left t.dark) n t ∧ ∀ k, (Grow G Y z1 k ∨ k = R) → k < z1.heap.size := by
  have hR := h.box.lt
  have ht' : Turns (fun k => G k ∨ k = R) Y z1 := ht.mono fun _ _ h => .inl h
  have hs : ∀ k, k < Y.heap.size → (Grow G Y z1 k ∨ k = R) → G k ∨ k = R := fun k hk hg => by
    rcases hg with (hg | hg) | hg
    · exact .inl hg
    · omega
    · exact .inr hg
  refine ⟨⟨kv, cv, rfl, h.dk.grow ht' hs, h.dc.grow ht' hs⟩, fun k hk => ?_⟩
  have := ht.size
  rcases hk with (hk | hk) | hk
  · have := h.low k hk; omega
  · exact hk.2
  · omega
/-- Behind an act. -/
theorem Pl.step {p' : Nat} (h : Pl w Y p R n t F G kv cv j) (ht : Turns G Y z1) (hi : IsT z1 p' n t' F') (hs : ∀ k, F' k → F k ∨ Y.heap.size ≤ k) (hb : Below z1.heap.size z1 z2)
    (hk : Stay (fun k => Grow G Y z1 k ∨ k = R) z2 fun x => IsW x kv' t'.kept) (hc : Stay (fun k => Grow G Y z1 k ∨ k = R) z2 fun x => IsW x cv' t'.cache) (hf : t'.kept.length + t'.cache.length ≤ j') :
    Pl w (st5 z2 R (.int .i64 n) kv' cv' (.int .i64 t'.left) (.bool t'.dark)) p' R n t' F' (Grow G Y z1) kv' cv' j' := by
  have hR := h.box.lt
  have hnR : ¬ Grow G Y z1 R := fun hg => hg.elim h.off.2 fun hg => by omega
  have h5 := st5_turns z2 R (.int .i64 n) kv' cv' (.int .i64 t'.left) (.bool t'.dark)
  have hbox : C5 R tTr (.int .i64 n) kv cv (.int .i64 t.left) (.bool t.dark) z2 := (h.box.turn ht h.off.2).on hb
  have hb1 := ht.size
  have hb2 := hb.size
  have hb3 := h5.size
  have hw := h.below.size
  have hsub : ∀ k, F' k → Grow G Y z1 k := fun k hk => (hs k hk).elim (fun hk => .inl (h.sub k hk)) fun hge => .inr ⟨hge, hi.low k hk⟩
  have h5' : Turns (fun k => Grow G Y z1 k ∨ k = R) z2 (st5 z2 R (.int .i64 n) kv' cv' (.int .i64 t'.left) (.bool t'.dark)) := h5.mono fun _ _ e => .inr e
  refine ⟨((h.below.trans (ht.below hw h.new)).trans (hb.mono (by omega))).trans (h5.below (by omega) fun k e => by rw [e]; exact h.off.1), (hi.below hb).turn h5 fun k hk e => hnR (e ▸ hsub k hk), hsub, fun k hk => ?_, fun k hk => hk.elim (h.new k) fun hk => by omega, hf, hbox.put _ _ _ _ _, ⟨h.off.1, hnR⟩, hk.turn h5', hc.turn h5'⟩
  rcases hk with hk | hk
  · have := h.low k hk; omega
  · have := hk.2; omega
/-- The program's call turns blocks of F. -/
theorem Pl.turns (h : Pl w Y p R n t F G kv cv j) (ht : Turns F Y z1) : Turns G Y z1 := ht.mono fun k _ hk => h.sub k hk
end

/-! ### the document's calls, with their trays -/
theorem dpower_any (F : Nat → Prop) (n : Int) (v : Value) (t : Tray (List UInt8)) (z : Int) (w : World) (h : IsD F w v n t) :
    Calls Try.prog 22 #[v, .int .i64 z] w fun e x => ∃ v', e = .returned (.tuple #[v', .int .i64 (if 0 ≤ z ∧ z ≤ 1099511627776 then 0 else 1)]) ∧ IsD F x v' n (if 0 ≤ z ∧ z ≤ 1099511627776 then t.power z else t) ∧ Below w.heap.size w x := by
  obtain ⟨kv, cv, rfl, hk, hc⟩ := h
  obtain ⟨ka, kq, rfl⟩ := hk.now.slice
  obtain ⟨co, cq, rfl⟩ := hc.now.slice
  refine (rpower_any n (.slice ka t.kept.length kq) (.slice co t.cache.length cq) ⟨_, _, _, rfl⟩ ⟨_, _, _, rfl⟩ t.left z t.dark _ rfl w).mono ?_
  rintro e x ⟨rfl, hb⟩
  by_cases hz : 0 ≤ z ∧ z ≤ 1099511627776
  · simp only [hz, and_self, decide_true, if_true]
    exact ⟨_, rfl, ⟨_, _, rfl, hk.below hb, hc.below hb⟩, hb⟩
  · simp only [hz, decide_false, if_false, Bool.false_eq_true]
    exact ⟨_, rfl, ⟨_, _, rfl, hk.below hb, hc.below hb⟩, hb⟩
theorem dread_any (n : Int) (kv cv : Value) (t : Tray (List UInt8)) (k : Int) (w : World) (hk : IsW w kv t.kept) (hc : IsW w cv t.cache) :
    Calls Try.prog 29 #[trV n kv cv t.left t.dark, .int .i64 k] w fun e x => e = .returned (.agg (sec (t.read nul k))) ∧ Below w.heap.size w x := by
  obtain ⟨ao, q, rfl, hk, -⟩ := hk
  obtain ⟨bo, r, rfl, hc, -⟩ := hc
  exact rread_any n ao bo q r t.kept t.cache t.left t.dark k w hk hc

/-! ### a copy of bytes that came in -/
theorem byElem : ∃ i z, IsElem Try.prog tBs tBy i z 1 1 := ⟨_, _, ⟨by kernel_rfl, rfl, rfl, by kernel_rfl, by kernel_rfl, by kernel_rfl, by omega⟩⟩
theorem empty_by (W : World) : (Instr.buildSlice tBs 0 #[]).run Try.prog W = .ok (.slice (some ⟨W.heap.size, 0, none⟩) 0 0) (W.alloc (.cells #[] tBy)) := by kernel_rfl
theorem empty_brow (w : World) : (w.alloc (.cells #[] tBy)).ownsRow w.heap.size tBy 1 (.slice (some ⟨w.heap.size, 0, none⟩) 0 0) 0 [] := World.ownsRow_made w #[] 0 (Nat.le_refl _) (by unfold maxLen; omega) rfl
theorem append_nil {P : Program} {w : World} {t e : TypeId} {i : TypeInfo} {z : Value} {sz by' : Nat} (T : IsElem P t e i z sz by') (ty : TypeId) {B n c : Nat} {v : Value} {xs : List Value} (hown : w.ownsRow B e sz v n xs) (hs : n ≤ 100000000) :
    (Builtin.append_ #[t, t] ty #[v, .slice none 0 c]).run P w = .ok v w := by
  rcases hown.2 with ⟨rfl, rfl⟩ | ⟨g, cap, cur, rfl, hbg, hg, hnc, hcm, hcs, htake⟩
  · simp [Builtin.append_, run_underlying T.under, sizeOf, typeInfo, T.info, Builtin.lenOf, Builtin.firstCells]
  · have h1 : ¬ (9223372036854775807 < (n : Int)) := by omega
    simp [Builtin.append_, run_underlying T.under, sizeOf, typeInfo, T.info, Builtin.lenOf, Builtin.firstCells, loadCells, hnc, storeCells]
theorem app_by {w : World} {B : Nat} {r v : Value} {b : List UInt8} (hown : w.ownsRow B tBy 1 r 0 []) (hB : B ≤ w.heap.size) (h : IsBytes w v b) (ty : TypeId) (hz : b.length ≤ 1000000) :
    ∃ r' y, (Builtin.append_ #[tBs, tBs] ty #[r, v]).run Try.prog w = .ok r' y ∧ y.ownsRow B tBy 1 r' b.length (Lib.byteCells b) ∧ w.grownBy y r.ownBlock ∧ NewRow w r r' := by
  obtain ⟨i, z, T⟩ := byElem
  obtain ⟨ao, cap, rfl, h1, h2, h3⟩ := h
  by_cases hb : b.length = 0
  · obtain rfl : b = [] := List.eq_nil_of_length_eq_zero hb
    cases ao with
    | none => exact ⟨r, w, append_nil T ty hown (by omega), hown, ⟨rfl, rfl, rfl, Nat.le_refl _, fun _ _ _ => rfl⟩, NewRow.refl _ _⟩
    | some a =>
      have := append_rows T ty hown hB (m := 0) (news := []) (ad := a) (c := cap) rfl (fun j u hj => by simp at hj) (fun u hu => by simp at hu) (by omega) (by omega)
      simpa [Lib.byteCells] using this
  · obtain ⟨g, o, rfl, hc⟩ := h3 hb
    have := append_rows T ty hown hB (m := b.length) (news := Lib.byteCells b) (ad := ⟨g, o, none⟩) (c := cap) (by rw [Lib.byteCells_length]; omega) (fun j u hj => by rw [addp]; exact hc j u hj) (one_bytes b) (by omega) (by omega)
    simpa using this
theorem walk_by {ops : Array Oper} {rest : List Oper} {o : Oper} {a : Go.Act} {w : World} {Q : Exit → Go.Act → World → Prop} {B : Nat} {r v : Value} {b : List UInt8} (hgd : o.guard = none) (s q : Operand) (ho : o.op = .call { callee := .builtin .append, args := #[s, q], argTypes := #[tBs, tBs] })
    (hs : a.eval s = r) (hq : a.eval q = v) (hown : w.ownsRow B tBy 1 r 0 []) (hB : B ≤ w.heap.size) (h : IsBytes w v b) (hz : b.length ≤ 1000000)
    (hK : ∀ r' y, y.ownsRow B tBy 1 r' b.length (Lib.byteCells b) → w.grownBy y r.ownBlock → NewRow w r r' → wpList Try.prog ops Q rest (a.put o.dst r') y) : wpList Try.prog ops Q (o :: rest) a w := by
  refine wpList_plain hgd fun K hK' => ?_
  obtain ⟨r', y, hr, h2, h3, h4⟩ := app_by hown hB h o.type hz
  unfold Oper.wp execOp
  simp only [ho, resolve, invoke, builtin, Sem.run_bind, Sem.run_pure, Result.andThen_ok, List.map_toArray, List.map_cons, List.map_nil, hs, hq, hr]
  exact hK' _ _ (hK r' y h2 h3 h4)
/-- Bytes of one's own, as bytes that stay. -/
theorem own_bytes {w : World} {B : Nat} {F : Nat → Prop} {v : Value} {b : List UInt8} (h : w.ownsRow B tBy 1 v b.length (Lib.byteCells b)) (hF : ∀ k, F k → k < B) : Stay F w fun x => IsBytes x v b := fun z hz => by
  have h' := own_turn h hz fun k hk hf => by have := (h.lt k hk).1; have := hF k hf; omega
  rcases h'.2 with ⟨rfl, h0⟩ | ⟨g, cap, cur, rfl, hb, hg, hn, hc, hs, ht⟩
  · obtain rfl : b = [] := List.eq_nil_of_length_eq_zero h0
    exact ⟨none, 0, rfl, Nat.le_refl _, Nat.zero_le _, fun h => absurd rfl h⟩
  · refine ⟨_, cap, rfl, hn, hc, fun _ => ⟨g, 0, rfl, fun j u hj => ?_⟩⟩
    have hr : z.ownsRow B tBy 1 (.slice (some ⟨g, 0, none⟩) b.length cap) b.length (Lib.byteCells b) := h'
    have hj' := (List.getElem?_eq_some_iff.1 hj).1
    rw [Lib.byteCells_length] at hj'
    rw [Nat.zero_add, hr.cellAt j (by omega)]
    exact hj
end Ta
end Go.Proofs.Ytdodmjcbjknneaa
