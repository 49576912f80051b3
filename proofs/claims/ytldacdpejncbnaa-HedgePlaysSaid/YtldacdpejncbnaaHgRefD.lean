/-
  Layer 15: the document's Put.
-/
import Derived.Test.YtldacdpejncbnaaHgRefC
namespace Go.Proofs.Ytldacdpejncbnaa
open Go.RowKit
namespace Hg
open Knot (Turns NewRow)
open Tr (IsElem own_turn own_below own_slice own_open walk_rows)

/-- Entries that may be appended. -/
structure Src (w : World) (ao : Option Addr) (cap : Nat) (L : List Ent) : Prop where
  none : ao = none → cap = 0 ∧ L = []
  cells : ∀ ad, ao = some ad → ad.block < w.heap.size ∧ ∀ j u, (cellsE L)[j]? = some u → w.cell? (ad.add j) = some u
theorem Src.on {w x : World} {ao : Option Addr} {cap : Nat} {L : List Ent} (h : Src w ao cap L) (hb : Below w.heap.size w x) : Src x ao cap L :=
  ⟨h.none, fun ad e => ⟨Nat.lt_of_lt_of_le (h.cells ad e).1 hb.size, fun j u hj => (hb.cell (p := ad.add j) (by
    have := (h.cells ad e).1
    cases ad
    unfold Addr.add
    split <;> (try split) <;> exact this)).trans ((h.cells ad e).2 j u hj)⟩⟩
theorem cellsE_take (L : List Ent) (k : Nat) : cellsE (L.take k) = (cellsE L).take (k * 2) := by
  induction L generalizing k with
  | nil => simp [cellsE]
  | cons e L ih =>
    cases k with
    | zero => simp [cellsE]
    | succ k =>
      rw [List.take_succ_cons, show (k + 1) * 2 = k * 2 + 1 + 1 by omega]
      show [_, _] ++ cellsE (L.take k) = List.take _ ([_, _] ++ cellsE L)
      rw [ih]
      simp
theorem cellsE_drop (L : List Ent) (k : Nat) : cellsE (L.drop k) = (cellsE L).drop (k * 2) := by
  induction L generalizing k with
  | nil => simp [cellsE]
  | cons e L ih =>
    cases k with
    | zero => simp [cellsE]
    | succ k =>
      rw [List.drop_succ_cons, show (k + 1) * 2 = k * 2 + 1 + 1 by omega]
      show cellsE (L.drop k) = List.drop _ ([_, _] ++ cellsE L)
      rw [ih]
      simp
theorem src_left {w : World} {ao : Option Addr} {cap : Nat} {L : List Ent} (h : Ro tDe w (.slice ao L.length cap) L) {k : Nat} (hk : k ≤ L.length) :
    ∃ bo c, (∀ W : World, (Instr.sliceAt tDs (.slice ao L.length cap) none (some (.int .i64 (k : Int))) none).run Try.prog W = .ok (.slice bo k c) W) ∧ Src w bo c (L.take k) := by
  have hcap : L.length ≤ cap := by
    rcases h.2 with ⟨h0, h1⟩ | ⟨g, c, cur, e, -, -, hn, -⟩
    · omega
    · cases e; exact hn
  refine ⟨if cap = 0 then ao else ao.map (·.add (0 * 2)), cap, fun W => ?_, ?_⟩
  · rw [run_sliceAt_slice (P := Try.prog) W _ _ _ _ _ elemD, run_slice_h (P := Try.prog) W _ ao L.length cap elemD .i64 (k : Int) (by omega) (by omega), sizeD]
    simp only [Result.andThen_ok, sliced, Int.toNat_natCast, Nat.sub_zero]
  · have e : (if cap = 0 then ao else ao.map (·.add (0 * 2))) = ao := by
      rcases h.2 with ⟨h0, h1⟩ | ⟨g, c, cur, e, -, -, hn, -⟩
      · obtain ⟨rfl, -, rfl⟩ := Value.slice.inj h0; simp
      · cases e; simp [Tr.addp]
    rw [e]
    rcases h.2 with ⟨h0, h1⟩ | ⟨g, c, cur, e, -, hg, hn, -⟩
    · obtain ⟨rfl, -, rfl⟩ := Value.slice.inj h0
      exact ⟨fun _ => ⟨rfl, by rw [List.eq_nil_of_length_eq_zero h1, List.take_nil]⟩, fun _ h => by cases h⟩
    · cases e
      refine ⟨fun h => (by cases h), fun ad he => ?_⟩
      cases he
      refine ⟨lt_of hg, fun j u hj => h.cells (g := g) rfl j u ?_⟩
      rw [cellsE_take] at hj
      rw [List.getElem?_take] at hj
      split at hj
      · exact hj
      · cases hj
theorem src_right {w : World} {ao : Option Addr} {cap : Nat} {L : List Ent} (h : Ro tDe w (.slice ao L.length cap) L) {k : Nat} (hk : k ≤ L.length) :
    ∃ bo c, (∀ W : World, (Instr.sliceAt tDs (.slice ao L.length cap) (some (.int .i64 (k : Int))) none none).run Try.prog W = .ok (.slice bo (L.drop k).length c) W) ∧ Src w bo c (L.drop k) := by
  have hcap : L.length ≤ cap := by
    rcases h.2 with ⟨h0, h1⟩ | ⟨g, c, cur, e, -, -, hn, -⟩
    · omega
    · cases e; exact hn
  refine ⟨if cap = k then ao else ao.map (·.add (k * 2)), cap - k, fun W => ?_, ?_⟩
  · rw [run_sliceAt_slice (P := Try.prog) W _ _ _ _ _ elemD, run_slice_l (P := Try.prog) W _ ao L.length cap elemD .i64 (k : Int) (by omega) (by omega), sizeD]
    simp only [Result.andThen_ok, sliced, Int.toNat_natCast, List.length_drop]
  · rcases h.2 with ⟨h0, h1⟩ | ⟨g, c, cur, e, -, hg, hn, -⟩
    · obtain ⟨rfl, -, rfl⟩ := Value.slice.inj h0
      refine ⟨fun _ => ⟨by omega, by rw [List.eq_nil_of_length_eq_zero h1, List.drop_nil]⟩, fun ad he => ?_⟩
      split at he <;> cases he
    · cases e
      refine ⟨fun he => ?_, fun ad he => ?_⟩
      · split at he <;> cases he
      · by_cases hc : cap = k
        · rw [if_pos hc] at he
          cases he
          have : k = L.length := by omega
          refine ⟨lt_of hg, fun j u hj => ?_⟩
          rw [List.drop_of_length_le (by omega)] at hj
          cases hj
        · rw [if_neg hc] at he
          have ha : ad = ⟨g, 0 + k * 2, none⟩ := by rw [Option.map_some, Tr.addp] at he; exact (Option.some.inj he).symm
          subst ha
          refine ⟨lt_of hg, fun j u hj => ?_⟩
          rw [cellsE_drop, List.getElem?_drop] at hj
          have := h.cells (g := g) rfl (k * 2 + j) u hj
          rw [Tr.addp] at this ⊢
          rw [show 0 + k * 2 + j = 0 + (k * 2 + j) by omega]
          exact this
section
variable {P : Program} {ops : Array Oper} {rest : List Oper} {o : Oper} {a : Act} {Q : Exit → Act → World → Prop} {w : World} {t e : TypeId} {i : TypeInfo} {z : Value} {by' : Nat}
theorem one_cells (M : List Ent) : ∀ u ∈ cellsE M, u.oneCell' = true := fun u hu => by
  obtain ⟨e, -, he⟩ := List.mem_flatMap.1 hu
  simp only [List.mem_cons, List.not_mem_nil, or_false] at he
  rcases he with rfl | rfl <;> rfl
/-- For the walk: entries behind entries, be there some or none. -/
theorem walk_src (T : IsElem P t e i z 2 by') (hgd : o.guard = none) (s x : Operand) (ho : o.op = .call { callee := .builtin .append, args := #[s, x], argTypes := #[t, t] })
    {B n c m : Nat} {v : Value} {xs : List Value} {ao : Option Addr} {M : List Ent} (hs : a.eval s = v) (hx : a.eval x = .slice ao m c) (hm : m = M.length) (hown : w.ownsRow B e 2 v n xs) (hB : B ≤ w.heap.size) (hS : Src w ao c M)
    (hz : n + m ≤ 100000000) (hb : (n + m) * by' ≤ 140737488355328)
    (h : ∀ v' y, y.ownsRow B e 2 v' (n + m) (xs ++ cellsE M) → w.grownBy y v.ownBlock → NewRow w v v' → wpList P ops Q rest (a.put o.dst v') y) : wpList P ops Q (o :: rest) a w := by
  cases ao with
  | none =>
    obtain ⟨rfl, rfl⟩ := hS.none rfl
    obtain rfl : m = 0 := hm
    have hr := Tr.append_none T o.type hown (by omega)
    refine wpList_plain hgd fun K hK => ?_
    unfold Oper.wp execOp
    simp only [ho, resolve, invoke, builtin, Sem.run_bind, Sem.run_pure, Result.andThen_ok, List.map_toArray, List.map_cons, List.map_nil, hs, hx, hr]
    refine hK _ _ (h v w ?_ ⟨rfl, rfl, rfl, Nat.le_refl _, fun _ _ _ => rfl⟩ (NewRow.refl w v))
    simpa [cellsE] using hown
  | some ad => exact walk_rows T hgd s x ho hs hx hown hB (by rw [cellsE_len, hm]) (hS.cells ad rfl).2 (one_cells M) hz hb h
end
theorem none_dent (W : World) : (Instr.buildSlice tDs 0 #[]).run Try.prog W = .ok (.slice (some ⟨W.heap.size, 0, none⟩) 0 0) (W.alloc (.cells #[] tDe)) := by kernel_rfl
theorem put_parts {L : List Ent} (h : Rises L) (q : ByteArray) (a : Int) : L.take (rank L q) ++ [(q, a)] ++ L.drop (rank L q + (if (get L q).isSome then 1 else 0)) = put L q a := by
  have hA := around h q
  rw [rank, put]
  generalize below L q = B at *
  generalize above L q = A at *
  generalize get L q = g at *
  subst hA
  cases g with
  | none => simp
  | some b => rw [show B ++ [(q, b)] ++ A = (B ++ [(q, b)]) ++ A from rfl]; simp
theorem Mine.app {w x y : World} {ov ov' : Value} {M N : List Ent} (h : Mine w ov M x) (ho : y.ownsRow w.heap.size tDe 2 ov' (M.length + N.length) (cellsE M ++ cellsE N)) (hg : x.grownBy y ov.ownBlock) : Mine w ov' (M ++ N) y := by
  refine ⟨by rw [List.length_append, cellsE_append]; exact ho, ?_⟩
  have ht : Turns (fun k => w.heap.size ≤ k) w y := (Turns.of_below h.below).trans (Turns.of_grown (F := fun k => ov.ownBlock = some k) hg fun k hk => hk) fun k _ hk => (h.own.lt k hk).1
  exact ht.below (Nat.le_refl _) fun k hk => hk
set_option maxHeartbeats 4000000 in
set_option maxRecDepth 100000 in
theorem dput_none {w : World} {v : Value} {L : List Ent} (h : Ro tDe w v L) (q : ByteArray) (x : Int) (hr : Rises L) (hL : Short L) (hq : q.size ≤ 4000000) (hl : L.length ≤ 90000) (hg : (get L q).isSome = false) :
    Calls Try.prog 12 #[v, .string q, .int .i64 x] w fun e y => ∃ ov, e = .returned ov ∧ Mine w ov (put L q x) y := by
  obtain ⟨ao, cap, rfl⟩ := h.slice
  obtain ⟨ti, tz, tb, hel, htb⟩ := elD
  have HT := Lib.hid (And.intro hel htb)
  have HK := Lib.hid (drank_any h q hL hq (by omega))
  have HH := Lib.hid h
  have hrl : rank L q + 0 ≤ L.length := by
    have := congrArg List.length (around hr q)
    rw [List.length_append, List.length_append] at this
    rw [rank]
    have hg' := hg
    cases hgg : get L q <;> rw [hgg] at this hg' <;> simp at this hg' ⊢ <;> omega
  have HP := Lib.hid (put_parts hr q x)
  rw [hg] at HP
  have hgt := fun (w : World) (h : Ro tDe w (.slice ao L.length cap) L) => dget_any h q (by omega)
  rw [hg] at hgt
  have HG := Lib.hid hgt
  obtain ⟨k, hk⟩ : ∃ k, k = rank L q := ⟨_, rfl⟩
  rw [← hk] at HK HP hrl
  obtain ⟨ro, rc, hsr, hS2⟩ := src_right h (k := k) (by omega)
  obtain ⟨lo, lc, hsl, hS1⟩ := src_left h (k := k) (by omega)
  have _h0 : True := trivial
  have HS := Lib.hid (And.intro hS1 hS2)
  have hd1 : (L.drop k).length = L.length - k := List.length_drop ..
  clear h hel htb hr hL hq hg hgt hk hS1 hS2
  generalize (get L q).getD 0 = gd at *
  rw [hd1] at hsr
  have HD1 := Lib.hid hd1
  clear hd1
  go_enter Try.func12, Try.ntmps12
  go_wp2_with fail
  refine HK.out.mono ?_
  rintro e x1 ⟨rfl, hb⟩
  have HB := Lib.hid hb
  clear hb
  go_wp2_with fail
  refine (HG.out x1 (HH.out.on HB.out)).mono ?_
  rintro e _ ⟨rfl, hx⟩
  rw [hx]
  clear hx
  have hb0 : Below x1.heap.size x1 (x1.alloc (.cells #[] tDe)) := (Below.refl _ _).alloc (Nat.le_refl _) _
  have hn0 := heap_alloc_new x1 (.cells #[] tDe)
  have ho0 : (x1.alloc (.cells #[] tDe)).ownsRow w.heap.size tDe 2 (.slice (some ⟨x1.heap.size, 0, none⟩) 0 0) 0 [] := ⟨rfl, .inr ⟨x1.heap.size, 0, #[], rfl, HB.out.size, hn0, Nat.le_refl _, Nat.zero_le _, rfl, rfl⟩⟩
  have hz0 : w.heap.size ≤ (x1.alloc (.cells #[] tDe)).heap.size := Nat.le_trans HB.out.size hb0.size
  have hw0 := HB.out.trans (hb0.mono HB.out.size)
  have hM0 : Mine w (.slice (some ⟨x1.heap.size, 0, none⟩) 0 0) [] (x1.alloc (.cells #[] tDe)) := ⟨ho0, hw0⟩
  have HO := Lib.hid (And.intro ho0 (And.intro hz0 (And.intro (HS.out.1.on hw0) hM0)))
  have hnd := none_dent
  clear hb0 hn0 ho0 hz0 hw0 hM0
  have hkl' : (L.take k).length = k := by rw [List.length_take]; omega
  have HKL := Lib.hid hkl'
  clear hkl'
  go_wp2_with (at_builtin; refine walk_src HT.out.1 rfl _ _ rfl rfl rfl HKL.out.symm HO.out.1 HO.out.2.1 HO.out.2.2.1 (by omega) (Nat.le_trans (Nat.mul_le_mul_left _ HT.out.2) (by omega)) ?_)
  intro v1 y1 ho1 hg1 hn1
  obtain ⟨a1, c1, rfl⟩ := own_slice ho1
  have hM1 : Mine w (.slice a1 k c1) (L.take k) y1 := by
    have := HO.out.2.2.2.app (N := L.take k) (by rw [HKL.out]; simpa [cellsE] using ho1) hg1
    simpa using this
  have hb1 : Below y1.heap.size y1 (y1.alloc (.cells #[.string q, .int .i64 x] tDe)) := (Below.refl _ _).alloc (Nat.le_refl _) _
  have hM2 := hM1.on hb1
  have ho2 := hM2.own
  rw [HKL.out] at ho2
  have hz2 : w.heap.size ≤ (y1.alloc (.cells #[.string q, .int .i64 x] tDe)).heap.size := Nat.le_trans hM1.below.size hb1.size
  have hbs := one_dent q x
  have HO2 := Lib.hid (And.intro ho2 (And.intro hz2 hM2))
  clear ho1 hg1 hn1 hM1 hb1 hM2 ho2 hz2 HO hnd
  go_wp2_with (at_builtin; refine walk_rows HT.out.1 rfl _ _ rfl rfl rfl HO2.out.1 HO2.out.2.1 (m := 1) rfl (new_cells _ _ [.string q, .int .i64 x] rfl) (by intro u' hu'; simp at hu'; rcases hu' with rfl | rfl <;> rfl) (by omega) (Nat.le_trans (Nat.mul_le_mul_left _ HT.out.2) (by omega)) ?_)
  intro v3 y3 ho3 hg3 hn3
  obtain ⟨a3, c3, rfl⟩ := own_slice ho3
  have hM3 : Mine w (.slice a3 (k + 1) c3) (L.take k ++ [(q, x)]) y3 := HO2.out.2.2.app (N := [(q, x)]) (by rw [HKL.out]; exact ho3) hg3
  have hz3 := hM3.below.size
  have ho3' := hM3.own
  rw [List.length_append, HKL.out] at ho3'
  have HO3 := Lib.hid (And.intro ho3' (And.intro hz3 (And.intro (HS.out.2.on hM3.below) hM3)))
  clear ho3 hg3 hn3 hM3 hz3 ho3' HO2 hbs
  go_wp2_with (at_builtin; refine walk_src HT.out.1 rfl _ _ rfl rfl rfl HD1.out.symm HO3.out.1 HO3.out.2.1 HO3.out.2.2.1 (by simp only [List.length_cons, List.length_nil]; omega) (Nat.le_trans (Nat.mul_le_mul_left _ HT.out.2) (by simp only [List.length_cons, List.length_nil]; omega)) ?_)
  intro v4 y4 ho4 hg4 hn4
  obtain ⟨a4, c4, rfl⟩ := own_slice ho4
  have hM4 := HO3.out.2.2.2.app (N := L.drop k) (by rw [List.length_append, HKL.out, HD1.out]; exact ho4) hg4
  have hPP := HP.out
  simp only [Bool.false_eq_true, if_false, Nat.add_zero] at hPP
  rw [hPP] at hM4
  have HM := Lib.hid hM4
  clear hM4 hPP ho4 hg4 hn4 HO3
  go_wp2_with fail
  go_ret
  exact ⟨_, rfl, HM.out⟩
set_option maxHeartbeats 4000000 in
set_option maxRecDepth 100000 in
theorem dput_some {w : World} {v : Value} {L : List Ent} (h : Ro tDe w v L) (q : ByteArray) (x : Int) (hr : Rises L) (hL : Short L) (hq : q.size ≤ 4000000) (hl : L.length ≤ 90000) (hg : (get L q).isSome = true) :
    Calls Try.prog 12 #[v, .string q, .int .i64 x] w fun e y => ∃ ov, e = .returned ov ∧ Mine w ov (put L q x) y := by
  obtain ⟨ao, cap, rfl⟩ := h.slice
  obtain ⟨ti, tz, tb, hel, htb⟩ := elD
  have HT := Lib.hid (And.intro hel htb)
  have HK := Lib.hid (drank_any h q hL hq (by omega))
  have HH := Lib.hid h
  have hrl : rank L q + 1 ≤ L.length := by
    have := congrArg List.length (around hr q)
    rw [List.length_append, List.length_append] at this
    rw [rank]
    have hg' := hg
    cases hgg : get L q <;> rw [hgg] at this hg' <;> simp at this hg' ⊢ <;> omega
  have HP := Lib.hid (put_parts hr q x)
  rw [hg] at HP
  have hgt := fun (w : World) (h : Ro tDe w (.slice ao L.length cap) L) => dget_any h q (by omega)
  rw [hg] at hgt
  have HG := Lib.hid hgt
  obtain ⟨k, hk⟩ : ∃ k, k = rank L q := ⟨_, rfl⟩
  rw [← hk] at HK HP hrl
  obtain ⟨ro, rc, hsr, hS2⟩ := src_right h (k := k) (by omega)
  obtain ⟨lo, lc, hsl, hS1⟩ := src_left h (k := k) (by omega)
  obtain ⟨so, sc, hss, hS3⟩ := src_right h (k := k + 1) (by omega)
  have hd2 : (L.drop (k + 1)).length = L.length - (k + 1) := List.length_drop ..
  rw [hd2, show ((k + 1 : Nat) : Int) = (k : Int) + 1 from rfl] at hss
  have HD2 := Lib.hid hd2
  clear hd2
  have HS := Lib.hid (And.intro hS1 hS3)
  have hd1 : (L.drop k).length = L.length - k := List.length_drop ..
  clear h hel htb hr hL hq hg hgt hk hS1 hS2 hS3
  generalize (get L q).getD 0 = gd at *
  rw [hd1] at hsr
  have HD1 := Lib.hid hd1
  clear hd1
  go_enter Try.func12, Try.ntmps12
  go_wp2_with fail
  refine HK.out.mono ?_
  rintro e x1 ⟨rfl, hb⟩
  have HB := Lib.hid hb
  clear hb
  go_wp2_with fail
  refine (HG.out x1 (HH.out.on HB.out)).mono ?_
  rintro e _ ⟨rfl, hx⟩
  rw [hx]
  clear hx
  have hb0 : Below x1.heap.size x1 (x1.alloc (.cells #[] tDe)) := (Below.refl _ _).alloc (Nat.le_refl _) _
  have hn0 := heap_alloc_new x1 (.cells #[] tDe)
  have ho0 : (x1.alloc (.cells #[] tDe)).ownsRow w.heap.size tDe 2 (.slice (some ⟨x1.heap.size, 0, none⟩) 0 0) 0 [] := ⟨rfl, .inr ⟨x1.heap.size, 0, #[], rfl, HB.out.size, hn0, Nat.le_refl _, Nat.zero_le _, rfl, rfl⟩⟩
  have hz0 : w.heap.size ≤ (x1.alloc (.cells #[] tDe)).heap.size := Nat.le_trans HB.out.size hb0.size
  have hw0 := HB.out.trans (hb0.mono HB.out.size)
  have hM0 : Mine w (.slice (some ⟨x1.heap.size, 0, none⟩) 0 0) [] (x1.alloc (.cells #[] tDe)) := ⟨ho0, hw0⟩
  have HO := Lib.hid (And.intro ho0 (And.intro hz0 (And.intro (HS.out.1.on hw0) hM0)))
  have hnd := none_dent
  clear hb0 hn0 ho0 hz0 hw0 hM0
  have hkl' : (L.take k).length = k := by rw [List.length_take]; omega
  have HKL := Lib.hid hkl'
  clear hkl'
  go_wp2_with (at_builtin; refine walk_src HT.out.1 rfl _ _ rfl rfl rfl HKL.out.symm HO.out.1 HO.out.2.1 HO.out.2.2.1 (by omega) (Nat.le_trans (Nat.mul_le_mul_left _ HT.out.2) (by omega)) ?_)
  intro v1 y1 ho1 hg1 hn1
  obtain ⟨a1, c1, rfl⟩ := own_slice ho1
  have hM1 : Mine w (.slice a1 k c1) (L.take k) y1 := by
    have := HO.out.2.2.2.app (N := L.take k) (by rw [HKL.out]; simpa [cellsE] using ho1) hg1
    simpa using this
  have hb1 : Below y1.heap.size y1 (y1.alloc (.cells #[.string q, .int .i64 x] tDe)) := (Below.refl _ _).alloc (Nat.le_refl _) _
  have hM2 := hM1.on hb1
  have ho2 := hM2.own
  rw [HKL.out] at ho2
  have hz2 : w.heap.size ≤ (y1.alloc (.cells #[.string q, .int .i64 x] tDe)).heap.size := Nat.le_trans hM1.below.size hb1.size
  have hbs := one_dent q x
  have HO2 := Lib.hid (And.intro ho2 (And.intro hz2 hM2))
  clear ho1 hg1 hn1 hM1 hb1 hM2 ho2 hz2 HO hnd
  go_wp2_with (at_builtin; refine walk_rows HT.out.1 rfl _ _ rfl rfl rfl HO2.out.1 HO2.out.2.1 (m := 1) rfl (new_cells _ _ [.string q, .int .i64 x] rfl) (by intro u' hu'; simp at hu'; rcases hu' with rfl | rfl <;> rfl) (by omega) (Nat.le_trans (Nat.mul_le_mul_left _ HT.out.2) (by omega)) ?_)
  intro v3 y3 ho3 hg3 hn3
  obtain ⟨a3, c3, rfl⟩ := own_slice ho3
  have hM3 : Mine w (.slice a3 (k + 1) c3) (L.take k ++ [(q, x)]) y3 := HO2.out.2.2.app (N := [(q, x)]) (by rw [HKL.out]; exact ho3) hg3
  have hz3 := hM3.below.size
  have ho3' := hM3.own
  rw [List.length_append, HKL.out] at ho3'
  have HO3 := Lib.hid (And.intro ho3' (And.intro hz3 (And.intro (HS.out.2.on hM3.below) hM3)))
  clear ho3 hg3 hn3 hM3 hz3 ho3' HO2 hbs
  go_wp2_with (at_builtin; refine walk_src HT.out.1 rfl _ _ rfl rfl rfl HD2.out.symm HO3.out.1 HO3.out.2.1 HO3.out.2.2.1 (by simp only [List.length_cons, List.length_nil]; omega) (Nat.le_trans (Nat.mul_le_mul_left _ HT.out.2) (by simp only [List.length_cons, List.length_nil]; omega)) ?_)
  intro v4 y4 ho4 hg4 hn4
  obtain ⟨a4, c4, rfl⟩ := own_slice ho4
  have hM4 := HO3.out.2.2.2.app (N := L.drop (k + 1)) (by rw [List.length_append, HKL.out, HD2.out, show k + [(q, x)].length + (L.length - (k + 1)) = L.length by simp only [List.length_cons, List.length_nil]; omega]; exact ho4) hg4
  have hPP := HP.out
  simp only [if_true] at hPP
  rw [hPP] at hM4
  have HM := Lib.hid hM4
  clear hM4 hPP ho4 hg4 hn4 HO3
  go_wp2_with fail
  go_ret
  exact ⟨_, rfl, HM.out⟩
theorem dput_any {w : World} {v : Value} {L : List Ent} (h : Ro tDe w v L) (q : ByteArray) (x : Int) (hr : Rises L) (hL : Short L) (hq : q.size ≤ 4000000) (hl : L.length ≤ 90000) :
    Calls Try.prog 12 #[v, .string q, .int .i64 x] w fun e y => ∃ ov, e = .returned ov ∧ Mine w ov (put L q x) y := by
  cases hg : (get L q).isSome with
  | false => exact dput_none h q x hr hL hq hl hg
  | true => exact dput_some h q x hr hL hq hl hg
end Hg
end Go.Proofs.Ytldacdpejncbnaa
