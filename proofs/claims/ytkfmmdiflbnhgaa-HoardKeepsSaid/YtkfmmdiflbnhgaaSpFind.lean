/-
  Layer 13: the program's find and Open.
-/
import Derived.Test.YtkfmmdiflbnhgaaSpRec
namespace Go.Proofs.Ytkfmmdiflbnhgaa
set_option maxRecDepth 100000
open Go.RowKit
open Knot (Turns NewRow)
open Ta (IsBytes Stay sec nul ptr IsT)
open Tr (own_turn own_below own_slice IsElem append_rows addp)
namespace Sp
abbrev tBss : TypeId := 42
/-! ### lists of records -/
/-- A list of records of the call's own (its row lies from B on); its records stay, whatever of G turns. -/
def Recs (B : Nat) (G : Nat → Prop) (x : World) (v : Value) (L : List (List UInt8)) : Prop :=
  ∃ vs : List Value, x.ownsRow B tBs 1 v L.length vs ∧ ∀ (i : Nat) (h : i < L.length), ∃ u, vs[i]? = some u ∧ Stay (fun k => G k ∨ v.ownBlock = some k) x (fun y => IsBytes y u L[i])
theorem recElem : ∃ i z b, IsElem Try.prog tBss tBs i z 1 b ∧ b ≤ 64 := by
  refine ⟨_, _, _, ⟨by kernel_rfl, rfl, rfl, by kernel_rfl, rfl, by kernel_rfl, by omega⟩, ?_⟩
  exact of_decide_eq_true (by kernel_rfl)
section
variable {x y : World} {B : Nat} {G : Nat → Prop} {v : Value} {L : List (List UInt8)}
theorem recs_nil (B : Nat) (G : Nat → Prop) (x : World) : Recs B G x (.slice none 0 0) [] := ⟨[], World.ownsRow_nil _ _ _ _, fun i h => by simp at h⟩
theorem Recs.turn (h : Recs B G x v L) (ht : Turns G x y) (hG : ∀ k, G k → k < B) : Recs B G y v L := by
  obtain ⟨vs, h1, h2⟩ := h
  refine ⟨vs, own_turn h1 ht fun k hk hg => by have := (h1.lt k hk).1; have := hG k hg; omega, fun i hi => ?_⟩
  obtain ⟨u, hu, hs⟩ := h2 i hi
  exact ⟨u, hu, hs.turn (ht.mono fun _ _ h => .inl h)⟩
theorem Recs.below (h : Recs B G x v L) (hb : Below x.heap.size x y) : Recs B G y v L := by
  obtain ⟨vs, h1, h2⟩ := h
  refine ⟨vs, own_below h1 hb, fun i hi => ?_⟩
  obtain ⟨u, hu, hs⟩ := h2 i hi
  exact ⟨u, hu, hs.below hb⟩
theorem Recs.slice (h : Recs B G x v L) : ∃ ao cap, v = .slice ao L.length cap := by
  obtain ⟨vs, h1, -⟩ := h
  exact own_slice h1
/-- One more record. -/
theorem recs_append {g : Nat} {u : Value} {b : List UInt8} (h : Recs B G x v L) (hB : B ≤ x.heap.size) (hc : x.cell? ⟨g, 0, none⟩ = some u) (hu : Stay (fun k => G k ∨ v.ownBlock = some k) x (fun y => IsBytes y u b)) (ty : TypeId) (hz : L.length ≤ 1000000) :
    ∃ v' y, (Builtin.append_ #[tBss, tBss] ty #[v, .slice (some ⟨g, 0, none⟩) 1 1]).run Try.prog x = .ok v' y ∧ Recs B G y v' (L ++ [b]) ∧ x.grownBy y v.ownBlock ∧ NewRow x v v' := by
  obtain ⟨vs, h1, h2⟩ := h
  obtain ⟨i, z, bb, T, hbb⟩ := recElem
  have hvl : vs.length = L.length := by have := h1.1; omega
  have ho : u.oneCell' = true := by
    obtain ⟨ao, cap, rfl, -⟩ := hu.now
    rfl
  obtain ⟨v', y, hr, o5, g5, n5⟩ := append_rows T ty h1 hB (m := 1) (news := [u]) (ad := ⟨g, 0, none⟩) (c := 1) rfl (fun j u' hj => by
    cases j with
    | zero => rw [addp]; simp at hj; subst hj; exact hc
    | succ j => simp at hj) (fun u' hu' => by rw [List.mem_singleton] at hu'; subst hu'; exact ho) (by omega) (Nat.le_trans (Nat.mul_le_mul_left _ hbb) (by omega))
  have ht : Turns (fun k => G k ∨ v.ownBlock = some k) x y := Turns.of_grown g5 fun k hk => .inr hk
  have hs : ∀ k, k < x.heap.size → (G k ∨ v'.ownBlock = some k) → (G k ∨ v.ownBlock = some k) := fun k hk h => by
    rcases h with h | h
    · exact .inl h
    · rcases n5 k h with h' | h'
      · exact .inr h'
      · omega
  refine ⟨v', y, hr, ⟨vs ++ [u], by rw [List.length_append]; exact o5, fun i hi => ?_⟩, g5, n5⟩
  rw [List.length_append, List.length_singleton] at hi
  by_cases hlt : i < L.length
  · obtain ⟨u', hu', hs'⟩ := h2 i hlt
    refine ⟨u', by rw [List.getElem?_append_left (by omega)]; exact hu', ?_⟩
    rw [List.getElem_append_left hlt]
    exact hs'.grow ht hs
  · obtain rfl : i = L.length := by omega
    refine ⟨u, by rw [← hvl]; simp, ?_⟩
    rw [List.getElem_append_right (Nat.le_refl _)]
    simp only [Nat.sub_self, List.getElem_cons_zero]
    exact hu.grow ht hs
theorem walk_recs {ops : Array Oper} {rest : List Oper} {o : Oper} {a : Go.Act} {Q : Exit → Go.Act → World → Prop} (hgd : o.guard = none) (s q : Operand) (ho : o.op = .call { callee := .builtin .append, args := #[s, q], argTypes := #[tBss, tBss] })
    {g : Nat} {u : Value} {b : List UInt8} (hs : a.eval s = v) (hq : a.eval q = .slice (some ⟨g, 0, none⟩) 1 1) (h : Recs B G x v L) (hB : B ≤ x.heap.size) (hc : x.cell? ⟨g, 0, none⟩ = some u) (hu : Stay (fun k => G k ∨ v.ownBlock = some k) x (fun y => IsBytes y u b)) (hz : L.length ≤ 1000000)
    (hK : ∀ v' y, Recs B G y v' (L ++ [b]) → x.grownBy y v.ownBlock → NewRow x v v' → wpList Try.prog ops Q rest (a.put o.dst v') y) : wpList Try.prog ops Q (o :: rest) a x := by
  refine wpList_plain hgd fun K hK' => ?_
  obtain ⟨r', y, hr, h2, h3, h4⟩ := recs_append h hB hc hu o.type hz
  unfold Oper.wp execOp
  simp only [ho, resolve, invoke, builtin, Sem.run_bind, Sem.run_pure, Result.andThen_ok, List.map_toArray, List.map_cons, List.map_nil, hs, hq, hr]
  exact hK' _ _ (hK r' y h2 h3 h4)
end
section
variable {rd : Nat → List UInt8} {stop epoch f n least : Nat}
theorem find_end (h : ¬ n < stop) : find rd stop epoch f n least = ([], n) := by
  cases f with
  | zero => rfl
  | succ f => rw [find, if_neg h]
theorem find_none (h : rec rd n least epoch = none) : find rd stop epoch f n least = ([], n) := by
  cases f with
  | zero => rfl
  | succ f =>
    rw [find]
    split
    · rw [h]
    · rfl
theorem find_step {b : List UInt8} {e o : Nat} (hn : n < stop) (h : rec rd n least epoch = some (b, e, o)) : find rd stop epoch (f + 1) n least = (b :: (find rd stop epoch f (n + o) e).1, (find rd stop epoch f (n + o) e).2) := by
  rw [find, if_pos hn, h]
theorem rec_is {b : List UInt8} {e o : Nat} (h : rec rd n least epoch = some (b, e, o)) : 0 < o ∧ least ≤ e ∧ e < epoch ∧ All rd n e o ∧ b.length ≤ 60000 ∧ b = bytes rd n o ∧ o = ofO (rd n) ∧ e = epO (rd n) := by
  unfold rec at h
  split at h
  · rename_i hc
    injection h with h
    injection h with h1 h2
    injection h2 with h2 h3
    subst h1 h2 h3
    exact ⟨hc.1, hc.2.1, hc.2.2.1, hc.2.2.2.1, hc.2.2.2.2, rfl, rfl, rfl⟩
  · cases h
end
section
variable {w : World} {q p n : Nat} {s : S} {t : Ta.Tray (List UInt8)} {F : Nat → Prop}
/-- Where a box says that the tail is. -/
def tailIn (x : World) (q : Nat) : Nat := match x.cell? ⟨q, 4, none⟩ with
  | some (.int _ z) => z.toNat
  | _ => 0
theorem SpB.tailIn {x : World} (h : SpB x q p s) : Sp.tailIn x q = s.tail := by
  unfold Sp.tailIn
  rw [h.cells.2.2.2.2.1]
  rfl
/-- What is found by a spool. -/
def found (t : Ta.Tray (List UInt8)) (s : S) : List (List UInt8) × Nat := find (rdS t s) (s.head + s.count) s.epoch s.count s.tail 0
set_option maxHeartbeats 16000000 in
set_option maxRecDepth 100000 in
theorem find_any (h : SpB w q p s) (hs : Fits s) (ht : IsT w p n t F) (hn : s.first + s.count ≤ n) (hq : ¬ F q) (h0 : s.tail = s.head) (h1 : s.head ≤ 1099511627776) :
    Calls Try.prog 52 #[ptr q] w fun e x => ∃ v, e = .returned v ∧ Turns (fun k => k = q) w x ∧ SpB x q p { s with tail := (found t s).2 } ∧ Recs w.heap.size (fun k => k < w.heap.size) x v (found t s).1 ∧ s.tail ≤ (found t s).2 ∧ (found t s).2 ≤ s.head + s.count + 65535 := by
  have hql := h.lt
  have HS := Lib.hid (And.intro hs (And.intro ht (And.intro hn (And.intro hq hql))))
  have H0 := Lib.hid h
  have hrd : ∀ tl, rdS t { s with tail := tl } = rdS t s := fun _ => rfl
  have hrl := fun k => rdS_len ht s k
  unfold found
  generalize hrdq : rdS t s = rd at *
  have HRd := Lib.hid (And.intro hrdq hrl)
  clear hrdq hrl h hs ht hn hq
  obtain ⟨first, count, head, tail, epoch, dead⟩ := s
  simp only at h0 h1
  subst h0
  simp only at hrd
  go_enter Try.func52, Try.ntmps52
  go_wp2_with fail
  go_loopw [3, 4] (fun v i x => ∃ (tl le f : Nat) (L : List (List UInt8)), i = .int .i64 (le : Int) ∧ le < 281474976710656 ∧ tail ≤ tl ∧ tl ≤ tail + count + 65535 ∧ tail + count - tl ≤ f ∧ Hid (Turns (fun k => k = q) w x ∧ SpB x q p ⟨first, count, tail, tl, epoch, dead⟩ ∧ Recs w.heap.size (fun k => k < w.heap.size) x v L ∧ L.length + f ≤ count) ∧
    Hid (find rd (tail + count) epoch count tail 0 = (L ++ (find rd (tail + count) epoch f tl le).1, (find rd (tail + count) epoch f tl le).2))) (fun _ _ x => tail + count - tailIn x q)
  case atStart => exact ⟨tail, 0, count, [], rfl, by omega, by omega, by omega, by omega, ⟨Turns.refl _ _, H0.out, recs_nil _ _ _, by simp⟩, Lib.hid (by rw [List.nil_append])⟩
  case round =>
    obtain ⟨tl, le, f, L, rfl, hle, ht1, ht2, hf, HX, HE⟩ := hrel
    have hsz := HX.out.1.size
    have hfit : Fits ⟨first, count, tail, tl, epoch, dead⟩ := ⟨HS.out.1.count, HS.out.1.first, ht1, by have := HS.out.1.count; show tl ≤ _; simp only at this; omega, HS.out.1.epoch⟩
    have hcnt := HS.out.1.count
    simp only at hcnt
    have HRo := Lib.hid (room_any HX.out.2.1 hfit)
    simp only at HRo
    have HIt := Lib.hid (show IsT wr p n t F from HS.out.2.1.turn HX.out.1 fun k hk e => HS.out.2.2.2.1 (e ▸ hk))
    have HRc := Lib.hid (show ∀ x, Below wr.heap.size wr x → _ from fun x hx => record_any le (HX.out.2.1.on hx) hfit (HIt.out.below hx) HS.out.2.2.1)
    have HFt := Lib.hid hfit
    clear hfit
    obtain ⟨ra, rc, rfl⟩ := HX.out.2.2.1.slice
    go_wp2_with fail
    refine HRo.out.mono ?_
    rintro e x1 ⟨rfl, hb1⟩
    have HB1 := Lib.hid hb1
    clear hb1 HRo
    by_cases hlt : tl < tail + count
    · have d0 : (0 : Int) < (count : Int) - ((tl : Int) - (tail : Int)) := by omega
      go_wp2_with fail
      clear d0
      refine (HRc.out x1 HB1.out).mono ?_
      rintro e x2 ⟨pe, pn, pp, po, bv, rfl, hb2, ⟨ba, bm, bc, rfl⟩, hpe, hpo, hrec⟩
      rw [show rdS t ⟨first, count, tail, tl, epoch, dead⟩ = rd from HRd.out.1 ▸ rfl] at hrec ⊢
      simp only at hrec ⊢
      have HB2 := Lib.hid (show Below wr.heap.size wr x2 from HB1.out.trans (hb2.mono HB1.out.size))
      have HR2 := Lib.hid hrec
      clear hrec
      cases hr : rec rd tl le epoch with
      | none =>
        rw [show (none : Option (List UInt8 × Nat × Nat)).isSome = false from rfl]
        rw [find_none hr] at HE
        have HF := Lib.hid (show find rd (tail + count) epoch count tail 0 = (L, tl) ∧ Turns (fun k => k = q) w (x2.alloc (.cells (plC pe pn pp po) tPl)) ∧ SpB (x2.alloc (.cells (plC pe pn pp po) tPl)) q p ⟨first, count, tail, tl, epoch, dead⟩ ∧ Recs w.heap.size (fun k => k < w.heap.size) (x2.alloc (.cells (plC pe pn pp po) tPl)) (.slice ra L.length rc) L from by
          have hb : Below wr.heap.size wr (x2.alloc (.cells (plC pe pn pp po) tPl)) := HB2.out.alloc HB2.out.size _
          refine ⟨by rw [HE.out, List.append_nil], HX.out.1.then_below hb, HX.out.2.1.on hb, HX.out.2.2.1.below hb⟩)
        clear hb2 hr hpe hpo
        unfold plC at HF ⊢
        go_wp2_with fail
        go_ret
        refine ⟨_, rfl, ?_⟩
        rw [HF.out.1]
        exact ⟨HF.out.2.1, HF.out.2.2.1, HF.out.2.2.2, ht1, ht2⟩
      | some y =>
        obtain ⟨b, e', o'⟩ := y
        rw [show (some (b, e', o')).isSome = true from rfl]
        obtain ⟨rfl, rfl, hst⟩ := HR2.out b e' o' hr
        have hri := rec_is hr
        obtain ⟨f, rfl⟩ : ∃ f', f = f' + 1 := ⟨f - 1, by omega⟩
        rw [find_step hlt hr] at HE
        have ho1 : 1 ≤ po ∧ po ≤ 65535 := ⟨hri.1, by have h1 := hri.2.2.2.2.2.2.1; have h2 := ofO_lt (HRd.out.2 tl); omega⟩
        obtain ⟨Z, hZ⟩ : ∃ Z, Z = x2.alloc (.cells (plC pe pn pp po) tPl) := ⟨_, rfl⟩
        have hz2 : Below x2.heap.size x2 Z := by rw [hZ]; exact (Below.refl _ _).alloc (Nat.le_refl _) _
        have hz : Below wr.heap.size wr Z := HB2.out.trans (hz2.mono HB2.out.size)
        have HZ := Lib.hid (show Below wr.heap.size wr Z ∧ PlB Z x2.heap.size pe pn pp po ∧ Stay (fun k => k < x1.heap.size) Z (fun y => IsBytes y (.slice ba bm bc) b) ∧ wr.heap.size ≤ x1.heap.size ∧ wr.heap.size ≤ x2.heap.size from ⟨hz, by rw [hZ]; exact heap_alloc_new x2 _, hst.below hz2, HB1.out.size, HB2.out.size⟩)
        clear hst hz hz2 hri hb2 hr HR2
        unfold plC
        go_upto_region 6 with fail
        change Code.wp _ _ _ _ (x2.alloc (.cells (plC pe pn pp po) tPl))
        rw [← hZ]
        clear hZ
        have HP := Lib.hid (show x2.heap.size = x2.heap.size ∧ wr.heap.size ≤ x2.heap.size from ⟨rfl, HZ.out.2.2.2.2⟩)
        generalize x2.heap.size = P at *
        have hal : Below Z.heap.size Z (Z.alloc (.cells #[.slice ba bm bc] tBs)) := (Below.refl _ _).alloc (Nat.le_refl _) _
        have hba : Below wr.heap.size wr (Z.alloc (.cells #[.slice ba bm bc] tBs)) := HZ.out.1.trans (hal.mono HZ.out.1.size)
        have hrow := HX.out.2.2.1.below hba
        have hcell : (Z.alloc (.cells #[.slice ba bm bc] tBs)).cell? ⟨Z.heap.size, 0, none⟩ = some (.slice ba bm bc) := by rw [Lib.cell_of_heap (heap_alloc_new Z _)]; rfl
        have hel : Stay (fun k => k < w.heap.size ∨ (Value.slice ra L.length rc).ownBlock = some k) (Z.alloc (.cells #[.slice ba bm bc] tBs)) (fun y => IsBytes y (.slice ba bm bc) b) := by
          refine (HZ.out.2.2.1.below hal).grow (Turns.refl _ _) fun k _ hk => ?_
          have h3 := HZ.out.2.2.2.1
          rcases hk with hk | hk
          · show k < _
            omega
          · obtain ⟨vs, h4, -⟩ := HX.out.2.2.1
            have h5 := (h4.lt k hk).2
            show k < _
            omega
        have HA := Lib.hid (And.intro hrow (And.intro hcell (And.intro hel (And.intro hba (Nat.le_trans hsz hba.size)))))
        have hLz : L.length ≤ 1000000 := by have := HX.out.2.2.2; omega
        clear hal hba hrow hcell hel
        go_wp2_with (at_builtin; refine walk_recs rfl _ _ rfl rfl rfl HA.out.1 HA.out.2.2.2.2 HA.out.2.1 HA.out.2.2.1 hLz ?_)
        intro r' y h5 g5 n5
        have hby : Below wr.heap.size wr y ∨ True := .inr trivial
        clear hby
        obtain ⟨ra', rc', hsl⟩ := h5.slice
        have hty : Turns (fun k => (Value.slice ra L.length rc).ownBlock = some k) (Z.alloc (.cells #[.slice ba bm bc] tBs)) y := Turns.of_grown g5 fun k hk => hk
        have hrb : ∀ k, (Value.slice ra L.length rc).ownBlock = some k → w.heap.size ≤ k ∧ k < wr.heap.size := fun k hk => by
          obtain ⟨vs, h4, -⟩ := HX.out.2.2.1
          exact h4.lt k hk
        have hbx : SpB y q p ⟨first, count, tail, tl, epoch, dead⟩ := (HX.out.2.1.on HA.out.2.2.2.1).turn hty fun h => by have := (hrb q h).1; have := HS.out.2.2.2.2; omega
        have hpl : PlB y P pe pn pp po := (HZ.out.2.1.on ((Below.refl Z.heap.size Z).alloc (Nat.le_refl _) _)).turn hty fun h => by have := (hrb P h).2; have := HZ.out.2.2.2.2; have := HP.out; omega
        have hwy : Turns (fun k => k = q) w y := (HX.out.1.then_below HA.out.2.2.2.1).trans (G := fun k => (Value.slice ra L.length rc).ownBlock = some k) hty fun k hk e => by have := (hrb k e).1; omega
        have HY := Lib.hid (And.intro hwy (And.intro hbx (And.intro hpl h5)))
        have hlen : (L ++ [b]).length = L.length + 1 := by simp
        rw [hlen] at hsl
        subst hsl
        clear h5 g5 n5 hty hrb hbx hpl hwy HA hlen
        go_upto_region 7 with fail
        have hw : IntKind.i64.wrap ((tl : Int) + (po : Int)) = (tl : Int) + (po : Int) := by rw [IntKind.wrap_i64] <;> omega
        have HFc := Lib.hid (show ∀ x, Below y.heap.size y x → x.cell? ⟨q, 4, none⟩ = some (.int .i64 (tl : Int)) ∧ x.cell? ⟨P, 3, none⟩ = some (.int .i64 (po : Int)) from fun x hx => ⟨(HY.out.2.1.on hx).cells.2.2.2.2.1, (HY.out.2.2.1.on hx).cells.2.2.2⟩)
        refine Order.beginE (fun x => Below y.heap.size y x) [7, 8, 9] (by kernel_rfl) ?_
        refine Order.readsE_any (idx := [0, 1, 2, 3, 4, 5, 6]) (by kernel_rfl) (Below.refl _ _).drew (fun _ _ _ _ _ h => Order.noPanic_put h) 3 _ _ (by decide +kernel) ?_
        simp only [Order.pick, List.getElem?_toArray, List.getElem?_cons_zero, List.getElem?_cons_succ]
        repeat (first
          | (refine Order.reads_off (by rfl) ?_
             simp only [Act.put, List.setIfInBounds_toArray, List.set_cons_zero, List.set_cons_succ])
          | (apply Order.reads_on
             · rfl
             · intro x hx
               first
                 | (obtain ⟨k0, k1⟩ := HFc.out x hx
                    exact Order.load_at rfl rfl (by assumption))
                 | (go_simp; rfl)
                 | (obtain ⟨k0, k1⟩ := HFc.out x hx
                    go_simp; rfl)
             simp only [Act.put, List.setIfInBounds_toArray, List.set_cons_zero, List.set_cons_succ]))
        refine Order.reads_end ?_
        have hbd : Below y.heap.size y y.drew := (Below.refl _ _).drew
        generalize y.drew = D at *
        have hbx := HY.out.2.1.on hbd
        have hpl := HY.out.2.2.1.on hbd
        have hcl : D.cell? ⟨q, 4, none⟩ = some (.int .i64 (tl : Int)) := hbx.cells.2.2.2.2.1
        have hfz := hbx.free 4
        have hqP : P ≠ q := by have := HP.out.2; have := HS.out.2.2.2.2; omega
        obtain ⟨N, hN⟩ : ∃ N, N = D.setCell ⟨q, 4, none⟩ (.int .i64 ((tl : Int) + (po : Int))) := ⟨_, rfl⟩
        have htn := turn1 D q 4 (.int .i64 ((tl : Int) + (po : Int)))
        have hbn := hbx.set 4 (.int .i64 ((tl : Int) + (po : Int)))
        rw [← hN] at htn hbn
        have hbn' : SpB N q p ⟨first, count, tail, tl + po, epoch, dead⟩ := by
          unfold SpB
          rw [hbn, show boxS p ⟨first, count, tail, tl + po, epoch, dead⟩ = (boxS p ⟨first, count, tail, tl, epoch, dead⟩).setIfInBounds 4 (.int .i64 ((tl : Int) + (po : Int))) by simp [boxS]]
        have hpn := hpl.turn htn hqP
        have hrn := (HY.out.2.2.2.below hbd).turn (htn.mono fun k _ e => by rw [e]; exact HS.out.2.2.2.2) fun k hk => hk
        have hwn : Turns (fun k => k = q) w N := (HY.out.1.then_below hbd).trans htn fun _ _ e => e
        have HN := Lib.hid (And.intro hwn (And.intro hbn' (And.intro hrn hpn)))
        clear hbd hbx hpl htn hbn hbn' hrn hpn hwn hqP HFc
        apply Order.lastE (i := 7)
        · rfl
        · decide +kernel
        · decide
        · rfl
        unfold Oper.wp
        go_simp
        apply Order.lastE (i := 8)
        · rfl
        · decide +kernel
        · decide
        · rfl
        unfold Oper.wp
        go_simp
        apply Order.lastE (i := 9)
        · rfl
        · decide +kernel
        · decide
        · rfl
        unfold Oper.wp
        go_simp
        rw [← hN]
        clear hN hcl hfz
        refine Order.doneE (by decide +kernel) ?_ _
        refine NoPanic.normal ?_
        obtain ⟨i0, i1, i2, i3⟩ := HN.out.2.2.2.cells
        go_wp2_with fail
        go_roundw
        case rel =>
          refine ⟨tl + po, pe, f, L ++ [b], rfl, by omega, by omega, by omega, by omega, ⟨HN.out.1, HN.out.2.1, HN.out.2.2.1, by have := HX.out.2.2.2; rw [List.length_append, List.length_singleton]; omega⟩, Lib.hid ?_⟩
          rw [HE.out, List.append_assoc]
          rfl
        case measure =>
          rw [HX.out.2.1.tailIn, HN.out.2.1.tailIn]
          show tail + count - (tl + po) < tail + count - tl
          omega
    · have d0 : ¬ (0 : Int) < (count : Int) - ((tl : Int) - (tail : Int)) := by omega
      have HF := Lib.hid (show find rd (tail + count) epoch count tail 0 = (L, tl) ∧ Turns (fun k => k = q) w x1 ∧ SpB x1 q p ⟨first, count, tail, tl, epoch, dead⟩ ∧ Recs w.heap.size (fun k => k < w.heap.size) x1 (.slice ra L.length rc) L from by
        rw [find_end hlt, List.append_nil] at HE
        exact ⟨HE.out, HX.out.1.then_below HB1.out, HX.out.2.1.on HB1.out, HX.out.2.2.1.below HB1.out⟩)
      clear hlt
      go_wp2_with fail
      go_ret
      refine ⟨_, rfl, ?_⟩
      rw [HF.out.1]
      exact ⟨HF.out.2.1, HF.out.2.2.1, HF.out.2.2.2, ht1, ht2⟩
end
end Sp
end Go.Proofs.Ytkfmmdiflbnhgaa
