/-
  Layer 15: the document's Get, Drop, From.
-/
import Derived.Test.YtldacdpejncbnaaHgRef
import Derived.Deep.DeepCutAuto
namespace Go.Proofs.Ytldacdpejncbnaa
open Go.RowKit
namespace Hg
open Knot (Turns NewRow)
open Tr (IsElem own_turn own_below own_slice own_open walk_rows)

theorem get_take {L : List Ent} {i : Nat} (hi : i < L.length) (k : ByteArray) : get (L.take (i + 1)) k = (get (L.take i) k).or (if L[i].1 = k then some L[i].2 else none) := by
  rw [List.take_succ_eq_append_getElem hi, get_append]
  congr 1
theorem text_ne {a b : ByteArray} (h : a ≠ b) : (a.toList == b.toList) = false := by
  rw [ByteArray.toList_eq, ByteArray.toList_eq, beq_eq_false_iff_ne]
  intro e
  refine h ?_
  cases a; cases b
  simpa [Array.toList_inj] using e
theorem text_eq {a b : ByteArray} (h : a = b) : (a.toList == b.toList) = true := by rw [h]; simp
set_option maxHeartbeats 4000000 in
set_option maxRecDepth 100000 in
theorem dget_any {w : World} {v : Value} {L : List Ent} (h : Ro tDe w v L) (k : ByteArray) (hl : L.length ≤ 100000) :
    Calls Try.prog 9 #[v, .string k] w fun e x => e = .returned (.tuple #[.int .i64 ((get L k).getD 0), .bool (get L k).isSome]) ∧ x = w := by
  obtain ⟨ao, cap, rfl⟩ := h.slice
  have HH := Lib.hid h
  clear h
  go_enter Try.func9, Try.ntmps9
  go_wp2_with fail
  go_loopw [9] (fun i wr => ∃ (j : Nat), j ≤ L.length ∧ i = .int .i64 (j : Int) ∧ wr = w ∧ Hid (get (L.take j) k = none)) (fun i _ => L.length - (intOf i).toNat)
  case atStart => exact ⟨0, Nat.zero_le _, rfl, rfl, Lib.hid rfl⟩
  case round =>
    obtain ⟨j, hj, rfl, rfl, HG⟩ := hrel
    by_cases hlt : j < L.length
    · obtain ⟨g, cp, he, -, q1, q2⟩ := HH.out.at hlt
      obtain ⟨rfl, -, rfl⟩ := Value.slice.inj he
      have hi := idxD (g := g) (n := L.length) (cap := cap) hlt
      have hgt := get_take hlt k
      rw [HG.out, Option.none_or] at hgt
      have HT := Lib.hid hgt
      have HD := Lib.hid (show ∀ a, get (L.take (j + 1)) k = some a → get L k = some a from fun a ha => by
        conv => lhs; rw [← List.take_append_drop (j + 1) L, get_append, ha]
        rfl)
      obtain ⟨key, hkey⟩ : ∃ s, s = L[j].1 := ⟨_, rfl⟩
      obtain ⟨num, hnum⟩ : ∃ s, s = L[j].2 := ⟨_, rfl⟩
      rw [← hkey] at q1 HT
      rw [← hnum] at q2 HT
      clear hgt hkey hnum
      by_cases c : key = k
      · have e1 := text_eq c
        rw [if_pos c] at HT
        have HZ := Lib.hid (HD.out num HT.out)
        clear HD HT
        go_wp2_with fail
        go_ret2
        rw [HZ.out]
        exact ⟨rfl, rfl⟩
      · have e1 := text_ne c
        rw [if_neg c] at HT
        clear HD
        go_wp2_with fail
        go_roundw
        case rel => exact ⟨j + 1, by omega, by go_num, trivial, HT⟩
        case measure => simp [intOf]; omega
    · have hjl : j = L.length := by omega
      have HJ := Lib.hid hjl
      clear hjl
      go_wp2_with fail
      go_ret2
      have hn := HG.out
      rw [HJ.out, List.take_length] at hn
      rw [hn]
      exact ⟨rfl, rfl⟩

theorem one_dent (k : ByteArray) (a : Int) (W : World) : (Instr.buildSlice tDs 1 #[(0, .agg #[.string k, .int .i64 a])]).run Try.prog W = .ok (.slice (some ⟨W.heap.size, 0, none⟩) 1 1) (W.alloc (.cells #[.string k, .int .i64 a] tDe)) := by kernel_rfl
/-- The cells of a new block. -/
theorem new_cells (w : World) (T : TypeId) (cs : List Value) {b : Nat} (hb : b = w.heap.size) : ∀ j u, cs[j]? = some u → (w.alloc (.cells cs.toArray T)).cell? ((⟨b, 0, none⟩ : Addr).add j) = some u := by
  subst hb
  intro j u hj
  rw [Tr.addp, Nat.zero_add, Lib.cell_of_heap (heap_alloc_new w _)]
  simpa using hj
/-- What is being made: a list of the call's own. -/
structure Mine (w : World) (ov : Value) (M : List Ent) (x : World) : Prop where
  own : x.ownsRow w.heap.size tDe 2 ov M.length (cellsE M)
  below : Below w.heap.size w x
theorem Mine.on {w x y : World} {ov : Value} {M : List Ent} (h : Mine w ov M x) (hb : Below x.heap.size x y) : Mine w ov M y := ⟨own_below h.own hb, h.below.trans (hb.mono h.below.size)⟩
theorem Mine.push {w x y : World} {ov ov' : Value} {M : List Ent} (h : Mine w ov M x) (e : Ent) (ho : y.ownsRow w.heap.size tDe 2 ov' (M.length + 1) (cellsE M ++ [.string e.1, .int .i64 e.2])) (hg : x.grownBy y ov.ownBlock) : Mine w ov' (M ++ [e]) y := by
  refine ⟨by rw [List.length_append, cellsE_append]; exact ho, ?_⟩
  have ht : Turns (fun k => w.heap.size ≤ k) w y := (Turns.of_below h.below).trans (Turns.of_grown (F := fun k => ov.ownBlock = some k) hg fun k hk => hk) fun k _ hk => (h.own.lt k hk).1
  exact ht.below (Nat.le_refl _) fun k hk => hk
/-- Without a key, entry by entry. -/
theorem drop_take {L : List Ent} {i : Nat} (hi : i < L.length) (k : ByteArray) : ((L.take (i + 1)).filter fun e => decide (e.1 ≠ k)) = ((L.take i).filter fun e => decide (e.1 ≠ k)) ++ (if L[i].1 ≠ k then [L[i]] else []) := by
  rw [List.take_succ_eq_append_getElem hi, List.filter_append]
  congr 1
  by_cases c : L[i].1 = k <;> simp [c]
theorem filter_drop {L : List Ent} (h : Rises L) (k : ByteArray) : (L.filter fun e => decide (e.1 ≠ k)) = drop L k := by
  conv => lhs; rw [around h k]
  rw [List.filter_append, List.filter_append, drop]
  have h1 : ((below L k).filter fun e => decide (e.1 ≠ k)) = below L k := List.filter_eq_self.2 fun e he => by
    have := rises_below L k e he
    simp only [decide_eq_true_eq]
    intro c
    rw [c, cmp_self] at this
    omega
  have h2 : ((above L k).filter fun e => decide (e.1 ≠ k)) = above L k := List.filter_eq_self.2 fun e he => by
    have := rises_above L k e he
    simp only [decide_eq_true_eq]
    intro c
    rw [c, cmp_self] at this
    omega
  rw [h1, h2]
  cases get L k <;> simp
set_option maxHeartbeats 4000000 in
set_option maxRecDepth 100000 in
theorem ddrop_any {w : World} {v : Value} {L : List Ent} (h : Ro tDe w v L) (k : ByteArray) (hr : Rises L) (hl : L.length ≤ 100000) :
    Calls Try.prog 14 #[v, .string k] w fun e x => ∃ ov, e = .returned ov ∧ Mine w ov (drop L k) x := by
  obtain ⟨ao, cap, rfl⟩ := h.slice
  have HH := Lib.hid (And.intro h hr)
  have HTE := Lib.hid elD
  obtain ⟨ti, tz, tb, hel, htb⟩ := HTE.out
  have HT := Lib.hid (And.intro hel htb)
  clear h hr hel htb HTE
  go_enter Try.func14, Try.ntmps14
  go_wp2_with fail
  go_loopw [9, 5] (fun i ov wr => ∃ (j : Nat), j ≤ L.length ∧ i = .int .i64 (j : Int) ∧ Hid (Mine w ov ((L.take j).filter fun e => decide (e.1 ≠ k)) wr)) (fun i _ _ => L.length - (intOf i).toNat)
  case atStart => exact ⟨0, Nat.zero_le _, rfl, Lib.hid ⟨World.ownsRow_nil _ _ _ _, Below.refl _ _⟩⟩
  case round =>
    obtain ⟨j, hj, rfl, HM⟩ := hrel
    obtain ⟨oo, oc, rfl⟩ := own_slice HM.out.own
    by_cases hlt : j < L.length
    · obtain ⟨g, cp, he, -, q1, q2⟩ := (HH.out.1.on HM.out.below).at hlt
      obtain ⟨rfl, -, rfl⟩ := Value.slice.inj he
      have hi := idxD (g := g) (n := L.length) (cap := cap) hlt
      have HD := Lib.hid (drop_take hlt k)
      have hln : ((L.take j).filter fun e => decide (e.1 ≠ k)).length ≤ j := by
        have h1 := List.length_filter_le (fun e : Ent => decide (e.1 ≠ k)) (L.take j)
        rw [List.length_take] at h1
        omega
      obtain ⟨key, hkey⟩ : ∃ s, s = L[j].1 := ⟨_, rfl⟩
      obtain ⟨num, hnum⟩ : ∃ s, s = L[j].2 := ⟨_, rfl⟩
      have hLj : L[j] = (key, num) := by rw [hkey, hnum]
      rw [hLj] at HD
      rw [← hkey] at q1
      rw [← hnum] at q2
      clear hkey hnum hLj
      generalize hN : ((L.take (j + 1)).filter fun e => decide (e.1 ≠ k)) = N at *
      have HN := Lib.hid hN
      clear hN
      generalize ((L.take j).filter fun e => decide (e.1 ≠ k)) = M at *
      obtain ⟨m, hm⟩ : ∃ m, m = M.length := ⟨_, rfl⟩
      rw [← hm] at hln ⊢
      by_cases c : key = k
      · have e1 := text_eq c
        rw [if_neg (by simp [c]), List.append_nil] at HD
        have HR := Lib.hid (show Mine w (.slice oo m oc) N wr from by rw [HD.out, hm]; exact HM.out)
        clear HD hm HM
        go_wp2_with fail
        go_roundw
        case rel => exact ⟨j + 1, by omega, by go_num, by rw [HN.out]; exact HR⟩
        case measure => simp [intOf]; omega
      · have e1 := text_ne c
        rw [if_pos c] at HD
        have hb1 : Below wr.heap.size wr (wr.alloc (.cells #[.string key, .int .i64 num] tDe)) := (Below.refl _ _).alloc (Nat.le_refl _) _
        have hm1 := HM.out.on hb1
        rw [← hm] at hm1
        have ho1 := hm1.own
        rw [← hm] at ho1
        have hz1 : w.heap.size ≤ (wr.alloc (.cells #[.string key, .int .i64 num] tDe)).heap.size := Nat.le_trans HM.out.below.size hb1.size
        have hbs := one_dent key num
        have HO := Lib.hid (And.intro ho1 (And.intro hz1 hm1))
        have HMM := Lib.hid hm
        clear hm HM hm1 ho1 hz1 hb1
        go_wp2_with (at_builtin; refine walk_rows HT.out.1 rfl _ _ rfl rfl rfl HO.out.1 HO.out.2.1 (m := 1) rfl (new_cells _ _ [.string key, .int .i64 num] rfl) (by intro u' hu'; simp at hu'; rcases hu' with rfl | rfl <;> rfl) (by omega) (Nat.le_trans (Nat.mul_le_mul_left _ HT.out.2) (by omega)) ?_)
        intro v' y ho hg hnr
        have hP := HO.out.2.2.push (key, num) (by rw [← HMM.out]; exact ho) hg
        rw [← HD.out] at hP
        have HP := Lib.hid hP
        clear hP ho hg hnr HO
        go_wp2_with fail
        go_roundw
        case rel => exact ⟨j + 1, by omega, by go_num, by rw [HN.out]; exact HP⟩
        case measure => simp [intOf]; omega
    · have hjl : j = L.length := by omega
      have HJ := Lib.hid hjl
      clear hjl
      go_wp2_with fail
      go_ret
      have hn := HM.out
      rw [HJ.out, List.take_length, filter_drop HH.out.2] at hn
      refine ⟨_, rfl, ?_⟩
      rw [HJ.out, List.take_length, filter_drop HH.out.2]
      exact hn
end Hg
end Go.Proofs.Ytldacdpejncbnaa
