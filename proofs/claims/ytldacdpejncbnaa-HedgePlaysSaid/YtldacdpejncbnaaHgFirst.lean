/-
  Layer 15: the first entries from a key on that belong: first's own closure.
-/
import Derived.Test.YtldacdpejncbnaaHgVis
import Derived.Deep.DeepCutAuto
namespace Go.Proofs.Ytldacdpejncbnaa
open Go.RowKit
namespace Hg
open Knot (Turns NewRow)
open Tr (IsElem own_turn own_below own_slice own_open)

abbrev tEs : TypeId := 38
abbrev tIn : TypeId := 3
abbrev tBl : TypeId := 66
def cellsE (L : List Ent) : List Value := L.flatMap fun e => [.string e.1, .int .i64 e.2]
theorem cellsE_append (L M : List Ent) : cellsE (L ++ M) = cellsE L ++ cellsE M := List.flatMap_append
theorem cellsE_len (L : List Ent) : (cellsE L).length = L.length * 2 := by
  induction L with
  | nil => rfl
  | cons e L ih => simp only [cellsE, List.flatMap_cons, List.length_append, List.length_cons, List.length_nil] at ih ⊢; omega
theorem elE : ∃ i z b, IsElem Try.prog tEs tEn i z 2 b ∧ b ≤ 100 := by
  refine ⟨_, _, _, ⟨by kernel_rfl, rfl, rfl, by kernel_rfl, rfl, by kernel_rfl, by omega⟩, ?_⟩
  exact of_decide_eq_true (by kernel_rfl)
theorem one_ent (k : ByteArray) (a : Int) (W : World) : (Instr.buildSlice tEs 1 #[(0, .agg #[.string k, .int .i64 a])]).run Try.prog W = .ok (.slice (some ⟨W.heap.size, 0, none⟩) 1 1) (W.alloc (.cells #[.string k, .int .i64 a] tEn)) := by kernel_rfl
theorem own_heap {w : World} {base size m : Nat} {e : TypeId} {v : Value} {xs : List Value} (h : w.ownsRow base e size v m xs) {g : Nat} (hg : v.ownBlock = some g) : ∃ cur, w.heap[g]? = some (.cells cur e (0, 0)) := by
  rcases h.2 with ⟨rfl, -⟩ | ⟨g', cap, cur, rfl, -, hh, -⟩
  · cases hg
  · obtain rfl : g' = g := Option.some.inj hg
    exact ⟨cur, hh⟩
/-- A row lies apart from a block of another type. -/
theorem own_ne {w : World} {base size m : Nat} {e T : TypeId} {v : Value} {xs : List Value} {c : Array Value} {k g : Nat} (h : w.ownsRow base e size v m xs) (hk : w.heap[k]? = some (.cells c T (0, 0))) (hn : e ≠ T) (hg : v.ownBlock = some g) : g ≠ k := fun e' => by
  obtain ⟨cur, hc⟩ := own_heap h hg
  subst e'
  rw [hc] at hk
  injection Option.some.inj hk with h3 h4
  exact hn h4
theorem clone_any (s : ByteArray) (w : World) (hs : s.size ≤ keyMax) : Calls Try.prog 27 #[.string s] w fun e w' => e = .returned (.string s) ∧ Below w.heap.size w w' := by
  have H := Lib.hid (Try.stringslite_Clone s w hs)
  clear hs
  go_enter Try.func27, Try.ntmps27
  go_wp2_with (go_at_call 38; refine H.out.mono ?_; rintro e w1 ⟨rfl, b1⟩)
  go_ret
  exact ⟨rfl, b1⟩
/-- What first's closure has in memory. -/
structure Fs (w : World) (n : Int) (bv : Value) (acc : List Ent) (y : World) : Prop where
  below : Below w.heap.size w y
  nb : y.heap[w.heap.size]? = some (.cells #[.int .i64 n] tIn (0, 0))
  bb : y.heap[w.heap.size + 1]? = some (.cells #[bv] tBl (0, 0))
  row : ∃ v, y.heap[w.heap.size + 1 + 1]? = some (.cells #[v] tEs (0, 0)) ∧ y.ownsRow w.heap.size tEn 2 v acc.length (cellsE acc)
section
variable {w x y : World} {n : Int} {bv : Value} {acc : List Ent}
theorem lt_of {o : Obj} {k : Nat} (h : y.heap[k]? = some o) : k < y.heap.size := (Array.getElem?_eq_some_iff.1 h).1
theorem Fs.on (h : Fs w n bv acc y) (hb : Below y.heap.size y x) : Fs w n bv acc x where
  below := h.below.trans (hb.mono h.below.size)
  nb := (hb.block _ (lt_of h.nb)).trans h.nb
  bb := (hb.block _ (lt_of h.bb)).trans h.bb
  row := by
    obtain ⟨v, h1, h2⟩ := h.row
    exact ⟨v, (hb.block _ (lt_of h1)).trans h1, own_below h2 hb⟩
theorem Fs.push (h : Fs w n bv acc y) {x2 x3 : World} {v v' : Value} (h1 : y.heap[w.heap.size + 1 + 1]? = some (.cells #[v] tEs (0, 0))) (h2 : y.ownsRow w.heap.size tEn 2 v acc.length (cellsE acc)) (e : Ent) (hb : Below y.heap.size y x2)
    (ho : x3.ownsRow w.heap.size tEn 2 v' (acc.length + 1) (cellsE acc ++ [.string e.1, .int .i64 e.2])) (hg : x2.grownBy x3 v.ownBlock) (hn : NewRow x2 v v') :
    x3.heap[w.heap.size + 1 + 1]? = some (.cells #[v] tEs (0, 0)) ∧ Fs w n bv (acc ++ [e]) (x3.setCell ⟨w.heap.size + 1 + 1, 0, none⟩ v') := by
  have q := h.on hb
  have ht : Turns (fun k => v.ownBlock = some k) x2 x3 := Turns.of_grown hg fun k hk => hk
  have h1' : x2.heap[w.heap.size + 1 + 1]? = some (.cells #[v] tEs (0, 0)) := (hb.block _ (lt_of h1)).trans h1
  have h2' := own_below h2 hb
  have n1 : ∀ g, v.ownBlock = some g → g ≠ w.heap.size := fun g hg => own_ne h2' q.nb (by decide) hg
  have n2 : ∀ g, v.ownBlock = some g → g ≠ w.heap.size + 1 := fun g hg => own_ne h2' q.bb (by decide) hg
  have n3 : ∀ g, v.ownBlock = some g → g ≠ w.heap.size + 1 + 1 := fun g hg => own_ne h2' h1' (by decide) hg
  have b3 : x3.heap[w.heap.size + 1 + 1]? = some (.cells #[v] tEs (0, 0)) := ht.heap h1' fun hk => n3 _ hk rfl
  have hset := turn1 x3 (w.heap.size + 1 + 1) 0 v'
  refine ⟨b3, ?_, ?_, ?_, v', Lib.heap_setCell_same (i := 0) b3 v', ?_⟩
  · have hw : Turns (fun k => w.heap.size ≤ k) w x3 := (Turns.of_below q.below).trans ht fun k _ hk => (h2'.lt k hk).1
    exact (hw.trans hset fun k _ e => by subst e; omega).below (Nat.le_refl _) fun k hk => hk
  · exact hset.heap (ht.heap q.nb fun hk => n1 _ hk rfl) (by omega)
  · exact hset.heap (ht.heap q.bb fun hk => n2 _ hk rfl) (by omega)
  · rw [List.length_append, List.length_singleton, cellsE_append]
    refine own_turn ho hset fun k hk e' => ?_
    rcases hn k hk with hk | hk
    · exact n3 k hk e'
    · have := lt_of h1'
      omega
end
set_option maxHeartbeats 4000000 in
set_option maxRecDepth 100000 in
theorem closure_any {w : World} {n : Int} {g : FuncId} {capG : Array Value} {bel : ByteArray → Bool} (hE : ∀ args x, (callFunc g args).run Try.prog x = .ok (.enter g args) x)
    (hB : ∀ key y, Below w.heap.size w y → Calls Try.prog g (#[.string key] ++ capG) y fun e y' => e = .returned (.bool (bel key)) ∧ y = y') :
    Vis 41 #[.pointer (some ⟨w.heap.size + 1 + 1, 0, none⟩), .pointer (some ⟨w.heap.size, 0, none⟩), .pointer (some ⟨w.heap.size + 1, 0, none⟩)] (want n bel) (Fs w n (fnv g capG)) := by
  refine ⟨fun args x => by kernel_rfl, fun acc x k a hj hl hk => ?_⟩
  have hb : Below x.heap.size x (x.alloc (.cells #[.string k, .int .i64 a] tEn)) := (Below.refl _ _).alloc (Nat.le_refl _) _
  have hbx := heap_alloc_new x (.cells #[.string k, .int .i64 a] tEn)
  obtain ⟨X, hX⟩ : ∃ X, X = x.alloc (.cells #[.string k, .int .i64 a] tEn) := ⟨_, rfl⟩
  rw [← hX] at hb hbx
  have hq := hj.on hb
  obtain ⟨v, r1, r2⟩ := hq.row
  obtain ⟨ao, cap, rfl⟩ := own_slice r2
  have d0 : X.cell? ⟨w.heap.size, 0, none⟩ = some (.int .i64 n) := by rw [Lib.cell_of_heap hq.nb]; rfl
  have d1 : X.cell? ⟨w.heap.size + 1, 0, none⟩ = some (fnv g capG) := by rw [Lib.cell_of_heap hq.bb]; rfl
  have d2 : X.cell? ⟨w.heap.size + 1 + 1, 0, none⟩ = some (.slice ao acc.length cap) := by rw [Lib.cell_of_heap r1]; rfl
  have d3 : X.cell? ⟨x.heap.size, 0, none⟩ = some (.string k) := by rw [Lib.cell_of_heap hbx]; rfl
  have d4 : X.cell? ⟨x.heap.size, 1, none⟩ = some (.int .i64 a) := by rw [Lib.cell_of_heap hbx]; rfl
  have HX := Lib.hid hX
  have HJ := Lib.hid (And.intro hq (And.intro r1 (And.intro r2 hbx)))
  have HB := Lib.hid (hB k X hq.below)
  have HK := Lib.hid hk
  clear hj hb hbx hX hq r1 r2 hk
  show Calls Try.prog 41 #[.agg #[.string k, .int .i64 a], .pointer (some ⟨w.heap.size + 1 + 1, 0, none⟩), .pointer (some ⟨w.heap.size, 0, none⟩), .pointer (some ⟨w.heap.size + 1, 0, none⟩)] x _
  obtain ⟨m, hm⟩ : ∃ m, m = acc.length := ⟨_, rfl⟩
  rw [← hm] at d2 hl
  by_cases c : (m : Int) < n
  · cases hbk : bel k with
    | false =>
      have hw : want n bel acc (k, a) = false := by simp [want, hbk]
      rw [hw]
      rw [hbk] at HB
      clear hbk hm hw
      simp only [Bool.false_eq_true, if_false]
      go_enter Try.func41, Try.ntmps41
      go_upto_region 1 with fail
      rw [← HX.out]
      clear HX
      go_wp2_with fail
      refine HB.out.mono ?_
      rintro e y ⟨rfl, rfl⟩
      go_wp2_with fail
      go_ret
      exact ⟨rfl, HJ.out.1⟩
    | true =>
      have hw : want n bel acc (k, a) = true := by
        simp only [want, hbk, Bool.and_true, decide_eq_true_eq]
        omega
      rw [hw]
      rw [hbk] at HB
      have HM := Lib.hid hm
      clear hbk hw hm
      simp only [if_true]
      go_enter Try.func41, Try.ntmps41
      go_upto_region 1 with fail
      rw [← HX.out]
      clear HX
      go_wp2_with fail
      refine HB.out.mono ?_
      rintro e y ⟨rfl, rfl⟩
      go_wp2_with fail
      have HF := Lib.hid (show ∀ z, Below X.heap.size X z → z.cell? ⟨w.heap.size + 1 + 1, 0, none⟩ = some (.slice ao m cap) ∧ z.cell? ⟨x.heap.size, 0, none⟩ = some (.string k) ∧ z.cell? ⟨x.heap.size, 1, none⟩ = some (.int .i64 a) from fun z hz =>
        ⟨(hz.cell (p := ⟨w.heap.size + 1 + 1, 0, none⟩) (lt_of HJ.out.2.1)).trans d2, (hz.cell (p := ⟨x.heap.size, 0, none⟩) (lt_of HJ.out.2.2.2)).trans d3, (hz.cell (p := ⟨x.heap.size, 1, none⟩) (lt_of HJ.out.2.2.2)).trans d4⟩)
      refine Order.beginE (fun z => Below X.heap.size X z) [8, 9] (by kernel_rfl) ?_
      refine Order.readsC_any (idx := [0, 1, 2, 4, 5]) (by kernel_rfl) (Below.refl _ _).drew (fun _ _ _ _ _ h => Order.noPanic_put h) 5 _ _ (by decide +kernel) ?_
      simp only [Order.pick, List.getElem?_toArray, List.getElem?_cons_zero, List.getElem?_cons_succ]
      repeat (first
        | (refine Order.reads_off (by rfl) ?_
           simp only [Act.put, List.setIfInBounds_toArray, List.set_cons_zero, List.set_cons_succ])
        | (apply Order.reads_on
           · rfl
           · intro x hx
             first
               | (obtain ⟨q2, q3, q4⟩ := HF.out x hx
                  go_simp; rfl)
           simp only [Act.put, List.setIfInBounds_toArray, List.set_cons_zero, List.set_cons_succ]))
      refine Order.reads_end ?_
      have hdr : Below X.heap.size X X.drew := (Below.refl _ _).drew
      have hxs : X.drew.heap.size = X.heap.size := rfl
      have HD := Lib.hid (And.intro hdr hxs)
      clear hdr hxs d0 d1 d2 d3 d4
      generalize X.drew = D at *
      apply Order.actE (i := 3)
      · rfl
      · decide +kernel
      · rfl
      unfold Oper.wp
      go_simp
      refine (clone_any k D HK.out).mono ?_
      rintro e y2 ⟨rfl, hb2⟩
      have hy2 : Below X.heap.size X y2 := HD.out.1.trans (hb2.mono (by rw [HD.out.2]; exact Nat.le_refl _))
      refine ⟨hy2, ?_⟩
      refine Order.readsC_any (idx := [6]) (by kernel_rfl) hy2 (fun _ _ _ _ _ h => Order.noPanic_put h) 3 _ _ (by decide +kernel) ?_
      simp only [Order.pick, List.getElem?_toArray, List.getElem?_cons_zero, List.getElem?_cons_succ]
      repeat (first
        | (refine Order.reads_off (by rfl) ?_
           simp only [Act.put, List.setIfInBounds_toArray, List.set_cons_zero, List.set_cons_succ])
        | (apply Order.reads_on
           · rfl
           · intro x hx
             first
               | (go_simp; rfl)
               | (fail
                  go_simp; rfl)
           simp only [Act.put, List.setIfInBounds_toArray, List.set_cons_zero, List.set_cons_succ]))
      refine Order.reads_end ?_
      apply Order.actE (i := 7)
      · rfl
      · decide +kernel
      · rfl
      simp only [List.getElem_toArray, List.getElem_cons_succ, List.getElem_cons_zero]
      refine Order.wp_lit1 rfl rfl (one_ent _ _ _) ?_
      obtain ⟨y3, hy3⟩ : ∃ y3, y3 = y2.alloc (.cells #[.string k, .int .i64 a] tEn) := ⟨_, rfl⟩
      have hb3 := hy2.alloc (o := .cells #[.string k, .int .i64 a] tEn) hy2.size
      have hrow := heap_alloc_new y2 (.cells #[.string k, .int .i64 a] tEn)
      rw [← hy3] at hb3 hrow ⊢
      have HY := Lib.hid (And.intro hb3 hrow)
      clear hy3 hb3 hrow hy2 hb2
      refine ⟨HY.out.1, ?_⟩
      apply Order.lastE (i := 8)
      · rfl
      · decide +kernel
      · decide
      · rfl
      simp only [List.getElem_toArray, List.getElem_cons_succ, List.getElem_cons_zero]
      obtain ⟨ti, tz, tb, hel, htb⟩ := elE
      have ho0 : y3.ownsRow w.heap.size tEn 2 (.slice ao m cap) m (cellsE acc) := by rw [HM.out]; exact own_below HJ.out.2.2.1 HY.out.1
      have hB0 : w.heap.size ≤ y3.heap.size := Nat.le_trans HJ.out.1.below.size HY.out.1.size
      refine Tr.wp_rows hel (.tmp 17) (.tmp 24) rfl (m := 1) (news := [.string k, .int .i64 a]) rfl rfl ho0 hB0 rfl ?_ ?_ (by omega) ?_ ?_
      · intro j u hj
        rw [Tr.addp, Nat.zero_add, Lib.cell_of_heap HY.out.2]
        simpa using hj
      · intro u hu
        simp only [List.mem_cons, List.not_mem_nil, or_false] at hu
        rcases hu with rfl | rfl <;> rfl
      · calc (m + 1) * tb ≤ 100000 * 100 := Nat.mul_le_mul (by omega) htb
          _ ≤ 140737488355328 := by omega
      intro v' z ho hg hn
      change y3.grownBy z (Value.slice ao m cap).ownBlock at hg
      change NewRow y3 (.slice ao m cap) v' at hn
      rw [HM.out] at ho hg hn
      obtain ⟨ao2, cap2, rfl⟩ := own_slice ho
      have hP := Fs.push HJ.out.1 HJ.out.2.1 HJ.out.2.2.1 (k, a) HY.out.1 ho hg hn
      have q0 : z.cell? ⟨w.heap.size + 1 + 1, 0, none⟩ = some (.slice ao acc.length cap) := by rw [Lib.cell_of_heap hP.1]; rfl
      have qf : z.frozen? ⟨w.heap.size + 1 + 1, 0, none⟩ = false := Lib.frozen_of_heap hP.1 0
      have HP := Lib.hid hP.2
      clear hP ho hg hn ho0 hB0
      apply Order.lastE (i := 9)
      · rfl
      · decide +kernel
      · decide
      · rfl
      unfold Oper.wp
      go_simp
      refine Order.doneE (by decide +kernel) ?_ _
      refine NoPanic.normal ?_
      generalize z.setCell ⟨w.heap.size + 1 + 1, 0, none⟩ (.slice ao2 (acc.length + 1) cap2) = Z at *
      go_wp2_with fail
      go_ret
      exact ⟨rfl, HP.out⟩
  · have hw : want n bel acc (k, a) = false := by
      simp only [want, Bool.and_eq_false_imp, decide_eq_true_eq]
      omega
    rw [hw]
    clear hm hw HB
    simp only [Bool.false_eq_true, if_false]
    go_enter Try.func41, Try.ntmps41
    go_upto_region 1 with fail
    rw [← HX.out]
    clear HX
    go_wp2_with fail
    go_ret
    exact ⟨rfl, HJ.out.1⟩
end Hg
end Go.Proofs.Ytldacdpejncbnaa
