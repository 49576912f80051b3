/-
  Layer 5 (tract): build: the expression of a good node.
-/
import Derived.Test.YtopncohhagebbaaGreatDoorTrMem
import Derived.Test.YtopncohhagebbaaGreatDoorMgMem
import Derived.Laws.MakeOwn
namespace Go.Proofs.YtopncohhagebbaaGreatDoor
open Go.RowKit
namespace Tr
open Who (wp_region_class quiet_of)

theorem word_len {s : ByteArray} (h : word s = true) : s.size ≤ 16 := by
  rw [word, Bool.and_eq_true, Gly.nameB, Bool.and_eq_true, decide_eq_true_iff, ← Lib.size_eq] at h
  exact h.1.1.2
def Built (n : Nd) (w : World) (e : Ending) (x : World) : Prop := ∃ u, e = .returned u ∧ IsExpr w.heap.size x n u ∧ Below w.heap.size w x

set_option maxRecDepth 100000 in
theorem exprs_info : ∃ i z, Tryz.prog.info? 88 = some i ∧ i.zero = some z ∧ i.size = 1 ∧ z.cells = #[z] ∧ z = .nilIface ∧ i.bytes ≤ 100 := by
  refine ⟨_, .nilIface, rfl, by kernel_rfl, by kernel_rfl, by kernel_rfl, rfl, ?_⟩
  exact of_decide_eq_true (by kernel_rfl)

set_option maxHeartbeats 4000000 in
set_option maxRecDepth 100000 in
theorem buildAll_of (l : List Nd) (ao : Option Addr) (cap : Nat) (vs : List Value) (w : World) (hk : Kids w l ao vs) (hl : l.length ≤ 300)
    (H : ∀ n ∈ l, ∀ v x, IsNode x n v → Calls Tryz.prog 103 #[v] x (Built n x)) :
    Calls Tryz.prog 137 #[.slice ao l.length cap] w fun e x => ∃ us, e = .returned (.slice (some ⟨w.heap.size, 0, none⟩) l.length l.length) ∧ (∀ i u, us[i]? = some u → x.cell? ⟨w.heap.size, 0 + i, none⟩ = some u) ∧ IsExprs (w.heap.size + 1) x l us ∧ Below w.heap.size w x := by
  obtain ⟨i, z, hi, hz, hs, hz1, -, hb⟩ := exprs_info
  have hmk : ∀ W : World, (Instr.makeSlice 207 (.int .i64 (l.length : Int)) (.int .i64 (l.length : Int))).run Tryz.prog W = .ok (.slice (some ⟨W.heap.size, 0, none⟩) l.length l.length) (W.alloc (.cells (madeCells #[z] l.length) 88)) := fun W => by
    have h := run_make (P := Tryz.prog) W 207 88 i z Tryz.underlying207 hi hz .i64 .i64 (l.length : Int) (l.length : Int) (by omega) (by omega) (by
      have h1 : i.bytes * l.length ≤ 100 * l.length := Nat.mul_le_mul_right _ hb
      have h2 : ((i.bytes * l.length : Nat) : Int) ≤ ((100 * l.length : Nat) : Int) := by omega
      rw [Int.natCast_mul] at h2
      omega) (by omega)
    rw [hs, hz1, Nat.mul_one] at h
    simpa using h
  have HK := Lib.hid hk
  have HH := Lib.hid H
  clear hi hz hs hz1 hb hk H
  go_enter Tryz.func137, Tryz.ntmps137
  go_wp2_with fail
  clear hmk
  go_loopw [11] (fun k wr => ∃ (j : Nat) (us : List Value) (cur : Array Value), j ≤ l.length ∧ k = .int .i64 (j : Nat) ∧ Hid (us.length = j ∧ cur.size = l.length ∧ (∀ (i : Nat) (u : Value), us[i]? = some u → cur[i]? = some u)) ∧ wr.heap[w.heap.size]? = some (.cells cur 88 (0, 0)) ∧ Hid (IsExprs (w.heap.size + 1) wr (l.take j) us) ∧ Below w.heap.size w wr) (fun k _ => l.length - (intOf k).toNat)
  case atStart =>
    refine ⟨0, [], madeCells #[z] l.length, by omega, rfl, Lib.hid ⟨rfl, size_madeCells _ _, fun i u h => by simp at h⟩, heap_alloc_new w _, Lib.hid ?_, fresh_one _ _⟩
    rw [List.take_zero, IsExprs]
  case round =>
    obtain ⟨j, us, cur, hj, rfl, HU, hg, HE, hb⟩ := hrel
    have hsz : w.heap.size < wr.heap.size := (Array.getElem?_eq_some_iff.1 hg).1
    by_cases hlt : j < l.length
    · obtain ⟨g, q, sa, sc, hix, hkg, c0, c1, c2, c3, hn⟩ := (HK.out.below hb).at cap hlt
      have hC := HH.out l[j] (List.getElem_mem hlt) _ (wr.alloc (.cells #[.int .i64 l[j].kind, .string l[j].ta, .string l[j].tb, .slice sa l[j].kids.length sc] 47)) (hn.below (fresh_one _ _))
      have hjx : ∀ W, (Instr.indexAt 207 (.slice (some ⟨w.heap.size, 0, none⟩) l.length l.length) (.int .i64 (j : Int))).run Tryz.prog W = .ok (.pointer (some ⟨w.heap.size, j, none⟩)) W := fun W => by
        rw [run_indexAt_slice W _ _ _ _ _ _ elemX, if_pos ⟨by omega, by omega⟩, sizeX]
        have e : ((j : Int)).toNat = j := by omega
        simp only [Result.andThen_ok, e, Addr.add_lit, Nat.mul_one, Nat.zero_add]
      have HC := Lib.hid hC
      have HB := Lib.hid (And.intro hb (And.intro hg hsz))
      have hlt3 : j ≤ 300 := by omega
      clear hn hC hb hg hsz
      go_wp2_with fail
      refine HC.out.mono ?_
      rintro e x ⟨u, rfl, hu, hx⟩
      obtain ⟨ut, uv, rfl⟩ := hu.iface
      have al := fresh_one wr (.cells #[.int .i64 l[j].kind, .string l[j].ta, .string l[j].tb, .slice sa l[j].kids.length sc] 47)
      have hx2 : Below wr.heap.size wr x := al.trans (hx.mono al.size)
      have hgx : x.heap[w.heap.size]? = some (.cells cur 88 (0, 0)) := (hx2.block _ HB.out.2.2).trans HB.out.2.1
      have hz0 : x.frozen? ⟨w.heap.size, j, none⟩ = false := Lib.frozen_of_heap hgx j
      have hcj : ∃ o, x.cell? ⟨w.heap.size, j, none⟩ = some o := by
        rw [Lib.cell_of_heap hgx]
        exact ⟨_, Array.getElem?_eq_getElem (by have := HU.out.2.1; omega)⟩
      obtain ⟨o, hcj⟩ := hcj
      have hnew := heap_setCell_same x w.heap.size j cur _ (Value.iface ut uv) hgx
      have hrel : Hid ((us ++ [Value.iface ut uv]).length = j + 1 ∧ (cur.setIfInBounds j (Value.iface ut uv)).size = l.length ∧ (∀ (i : Nat) (u : Value), (us ++ [Value.iface ut uv])[i]? = some u → (cur.setIfInBounds j (Value.iface ut uv))[i]? = some u)) := by
        refine Lib.hid ⟨by rw [List.length_append, HU.out.1]; rfl, by rw [Array.size_setIfInBounds]; exact HU.out.2.1, fun i u hi => ?_⟩
        have hle := HU.out.1
        rw [Array.getElem?_setIfInBounds]
        by_cases e : j = i
        · subst e
          rw [if_pos rfl, if_pos (by have := HU.out.2.1; omega)]
          rw [List.getElem?_append_right (by omega), hle, Nat.sub_self] at hi
          exact hi
        · rw [if_neg e]
          have hlen := (List.getElem?_eq_some_iff.1 hi).1
          rw [List.length_append, List.length_singleton] at hlen
          rw [List.getElem?_append_left (by omega)] at hi
          exact HU.out.2.2 i u hi
      have hexp : Hid (IsExprs (w.heap.size + 1) (x.setCell ⟨w.heap.size, j, none⟩ (Value.iface ut uv)) (l.take (j + 1)) (us ++ [Value.iface ut uv])) := by
        refine Lib.hid (IsExprs.of ?_ fun i hi v hv => ?_)
        · rw [List.length_append, HU.out.1, List.length_take, Nat.min_eq_left (by omega)]; rfl
        · rw [List.length_take] at hi
          by_cases e : i = j
          · subst e
            rw [List.getElem?_append_right (by rw [HU.out.1]; omega), HU.out.1, Nat.sub_self] at hv
            obtain rfl : Value.iface ut uv = v := by simpa using hv
            rw [List.getElem_take]
            exact (hu.mono (by have := HB.out.2.2; simp; omega)).put (by simp) _
          · have hi2 : i < (l.take j).length := by rw [List.length_take]; omega
            obtain ⟨v', hv', hn'⟩ := HE.out.at hi2
            have hlen := (List.getElem?_eq_some_iff.1 hv').1
            rw [List.getElem?_append_left hlen, hv'] at hv
            obtain rfl : v' = v := by simpa using hv
            rw [List.getElem_take] at hn' ⊢
            exact (hn'.below hx2).put (by simp) _
      have HX := Lib.hid (And.intro hnew (HB.out.1.trans (hx2.mono HB.out.1.size)))
      clear HC hu hx al hx2 hgx hnew HU HE HB c0 c1 c2 c3 hix hkg
      go_wp2_with fail
      go_roundw
      case rel => exact ⟨j + 1, _, _, by omega, by go_num, hrel, HX.out.1, hexp, HX.out.2.setCell (by simp) _⟩
      case measure => simp [intOf]; omega
    · have hj' : j = l.length := by omega
      subst hj'
      have hE := HE.out
      rw [List.take_length] at hE
      have HF := Lib.hid (And.intro hE (And.intro hg hb))
      clear HE hE hg hb
      go_wp2_with fail
      go_ret
      exact ⟨us, rfl, fun i u hi => by rw [Lib.cell_of_heap HF.out.2.1, Nat.zero_add]; exact HU.out.2.2 i u hi, HF.out.1, HF.out.2.2⟩

set_option maxHeartbeats 8000000 in
set_option maxRecDepth 100000 in
theorem build_any : ∀ (q : Nat) (n : Nd) (v : Value) (w : World), size n ≤ q → size n ≤ 300 → good n = true → IsNode w n v → Calls Tryz.prog 103 #[v] w (Built n w) := by
  intro q
  induction q with
  | zero => intro n v w h; have := size_pos n; omega
  | succ q ih =>
    intro n v w hk hl hg hn
    obtain ⟨ao, cap, vs, rfl, -, hks⟩ := hn.kids
    cases n with
    | mk k a b l =>
    rw [good, Bool.and_eq_true] at hg
    obtain ⟨hgs, hf⟩ := hg
    rw [fits] at hf
    rw [size] at hk hl
    have hll : l.length ≤ 300 := by have := sizes_len l; omega
    have HH : Hid (∀ n ∈ l, ∀ v x, IsNode x n v → Calls Tryz.prog 103 #[v] x (Built n x)) := Lib.hid fun n hn v x hx =>
      ih n v x (by have := sizes_mem hn; omega) (by have := sizes_mem hn; omega) (goods_mem hgs hn) hx
    have HK : Hid (Kids w l ao vs) := hks
    clear ih hn hks hgs hk hl
    show Calls _ _ #[node4 k a b (.slice ao l.length cap)] _ _
    have HB := Lib.hid (Box4.new w k a b (.slice ao l.length cap))
    by_cases h1 : k = 1
    · subst h1
      go_enter Tryz.func103, Tryz.ntmps103
      go_wp2_with fail
      go_ret
      exact ⟨_, rfl, by rw [IsExpr]; exact .inl ⟨rfl, rfl⟩, fresh_one _ _⟩
    by_cases h2 : k = 2
    · subst h2
      have hw : word a = true := by revert hf; simp; exact fun h _ _ => h
      have HC := Lib.hid (Who.clone_any a (w.alloc (.cells #[.int .i64 2, .string a, .string b, .slice ao l.length cap] 47)) (by have := word_len hw; omega))
      clear hw hf h1
      go_enter Tryz.func103, Tryz.ntmps103
      go_wp2_with fail
      refine HC.out.mono ?_
      rintro e x ⟨rfl, hx⟩
      go_wp2_with fail
      go_ret
      exact ⟨_, rfl, by rw [IsExpr]; exact .inr (.inl ⟨rfl, rfl⟩), (fresh_one _ _).trans (hx.mono (by simp))⟩
    by_cases h3 : k = 3
    · subst h3
      have hw : word a = true ∧ word b = true := by revert hf; simp; exact fun h h' _ => ⟨h, h'⟩
      have HC := Lib.hid (show (∀ x, Calls Tryz.prog 64 #[.string a] x _) ∧ ∀ x, Calls Tryz.prog 64 #[.string b] x _ from ⟨fun x => Who.clone_any a x (by have := word_len hw.1; omega), fun x => Who.clone_any b x (by have := word_len hw.2; omega)⟩)
      clear hw hf h1 h2
      go_enter Tryz.func103, Tryz.ntmps103
      go_wp2_with fail
      refine wp_region_class (C := fun x => Below w.heap.size w x ∧ Box4 w.heap.size 3 a b (.slice ao l.length cap) x) (by kernel_rfl) (by kernel_rfl) ⟨(fresh_one _ _).drew, HB.out⟩ ?_
      repeat (first
        | go_big_quiet_skip
        | (go_big_quiet_want
           apply quiet_of
           · intro x hx
             obtain ⟨-, a1, a2, a3⟩ := hx.2.cells
             first
               | (go_simp; rfl)
               | (clear a1 a2 a3; go_simp; go_at_call 64; refine (HC.out.1 x).mono ?_; rintro e y ⟨rfl, hy⟩; exact ⟨rfl, hx.1.trans (hy.mono hx.1.size), hx.2.on hy⟩)
               | (clear a1 a2 a3; go_simp; go_at_call 64; refine (HC.out.2 x).mono ?_; rintro e y ⟨rfl, hy⟩; exact ⟨rfl, hx.1.trans (hy.mono hx.1.size), hx.2.on hy⟩)
           simp only [Act.put, List.setIfInBounds_toArray, List.set_cons_zero, List.set_cons_succ]
           go_big_quiet_on))
      refine wpQuiet_nil ?_
      intro x hx
      have HX := Lib.hid hx
      clear hx
      go_wp2_with fail
      go_ret
      exact ⟨_, rfl, by rw [IsExpr]; exact .inr (.inr (.inl ⟨rfl, rfl⟩)), HX.out.1⟩
    by_cases h45 : k = 4 ∨ k = 5
    · have HC := Lib.hid (buildAll_of l ao cap vs (w.alloc (.cells #[.int .i64 k, .string a, .string b, .slice ao l.length cap] 47)) (HK.out.below (fresh_one _ _)) hll HH.out)
      clear hf h1 h2 h3
      rcases h45 with rfl | rfl
      · go_enter Tryz.func103, Tryz.ntmps103
        go_wp2_with fail
        refine HC.out.mono ?_
        rintro e x ⟨us, rfl, hc, hu, hx⟩
        have HX := Lib.hid (And.intro hc (And.intro hu hx))
        clear hc hu hx
        go_wp2_with fail
        go_ret
        refine ⟨_, rfl, ?_, (fresh_one _ _).trans (HX.out.2.2.mono (by simp))⟩
        rw [IsExpr]
        exact .inr (.inr (.inr (.inl ⟨rfl, _, _, _, us, rfl, by simp, fun i u h => by have := HX.out.1 i u h; simpa using this, HX.out.2.1.each fun _ _ h => h.mono (by simp; omega)⟩)))
      · go_enter Tryz.func103, Tryz.ntmps103
        go_wp2_with fail
        refine HC.out.mono ?_
        rintro e x ⟨us, rfl, hc, hu, hx⟩
        have HX := Lib.hid (And.intro hc (And.intro hu hx))
        clear hc hu hx
        go_wp2_with fail
        go_ret
        refine ⟨_, rfl, ?_, (fresh_one _ _).trans (HX.out.2.2.mono (by simp))⟩
        rw [IsExpr]
        exact .inr (.inr (.inr (.inr (.inl ⟨rfl, _, _, _, us, rfl, by simp, fun i u h => by have := HX.out.1 i u h; simpa using this, HX.out.2.1.each fun _ _ h => h.mono (by simp; omega)⟩))))
    have h6 : k = 6 ∧ l.length = 2 := by
      have h4 : k ≠ 4 := fun e => h45 (.inl e)
      have h5 : k ≠ 5 := fun e => h45 (.inr e)
      revert hf
      simp [h1, h2, h3, h4, h5]
      exact fun h _ _ h' => ⟨h, h'⟩
    obtain ⟨rfl, hl2⟩ := h6
    clear hf h1 h2 h3 h45
    obtain ⟨m0, m1, rfl⟩ : ∃ m0 m1, l = [m0, m1] := by
      match l, hl2 with
      | [m0, m1], _ => exact ⟨m0, m1, rfl⟩
    obtain ⟨g, q0, sa, sc, hix, hkg, c0, c1, c2, c3, hn0⟩ := HK.out.at cap (i := 0) (by simp)
    obtain ⟨g', q1, sa', sc', hix', hkg', d0, d1, d2, d3, hn1⟩ := HK.out.at cap (i := 1) (by simp)
    simp only [List.getElem_cons_zero, List.getElem_cons_succ, List.length_cons, List.length_nil] at hix hix' c0 c1 c2 c3 d0 d1 d2 d3 hn0 hn1
    have hix0 : ∀ W, (Instr.indexAt 45 (.slice ao 2 cap) (.int .i64 0)).run Tryz.prog W = .ok (.pointer (some ⟨g, q0, none⟩)) W := fun W => hix W
    have hix1 : ∀ W, (Instr.indexAt 45 (.slice ao 2 cap) (.int .i64 1)).run Tryz.prog W = .ok (.pointer (some ⟨g', q1, none⟩)) W := fun W => hix' W
    clear hix hix'
    have hcell : ∀ x, Order.Fresh (w.alloc (.cells #[.int .i64 6, .string a, .string b, .slice ao 2 cap] 47)).drew x → x.cell? ⟨w.heap.size, 3, none⟩ = some (.slice ao 2 cap) ∧
        (x.cell? ⟨g, q0, none⟩ = some (.int .i64 m0.kind) ∧ x.cell? ⟨g, q0 + 1, none⟩ = some (.string m0.ta) ∧ x.cell? ⟨g, q0 + 2, none⟩ = some (.string m0.tb) ∧ x.cell? ⟨g, q0 + 3, none⟩ = some (.slice sa m0.kids.length sc)) ∧
        (x.cell? ⟨g', q1, none⟩ = some (.int .i64 m1.kind) ∧ x.cell? ⟨g', q1 + 1, none⟩ = some (.string m1.ta) ∧ x.cell? ⟨g', q1 + 2, none⟩ = some (.string m1.tb) ∧ x.cell? ⟨g', q1 + 3, none⟩ = some (.slice sa' m1.kids.length sc')) := fun x hx => by
      have hb : Below w.heap.size w x := (fresh_one w (.cells #[.int .i64 6, .string a, .string b, .slice ao 2 cap] 47)).drew.trans (Below.mono hx (by simp [World.drew]))
      have hbx : Box4 w.heap.size 6 a b (.slice ao 2 cap) x := (hx.block w.heap.size (by simp [World.drew])).trans HB.out
      exact ⟨hbx.cells.2.2.2, ⟨(hb.cell (p := ⟨g, q0, none⟩) hkg).trans c0, (hb.cell (p := ⟨g, q0 + 1, none⟩) hkg).trans c1, (hb.cell (p := ⟨g, q0 + 2, none⟩) hkg).trans c2, (hb.cell (p := ⟨g, q0 + 3, none⟩) hkg).trans c3⟩,
        (hb.cell (p := ⟨g', q1, none⟩) hkg').trans d0, (hb.cell (p := ⟨g', q1 + 1, none⟩) hkg').trans d1, (hb.cell (p := ⟨g', q1 + 2, none⟩) hkg').trans d2, (hb.cell (p := ⟨g', q1 + 3, none⟩) hkg').trans d3⟩
    have hC0 := fun x (hx : Below w.heap.size w x) => HH.out m0 (by simp) _ x (hn0.below hx)
    have hC1 := fun x (hx : Below w.heap.size w x) => HH.out m1 (by simp) _ x (hn1.below hx)
    have HX := Lib.hid hcell
    have HC := Lib.hid (And.intro hC0 hC1)
    have HA := Lib.hid (show Below w.heap.size w (w.alloc (.cells #[.int .i64 6, .string a, .string b, .slice ao 2 cap] 47)).drew from (fresh_one _ _).drew)
    clear hcell hC0 hC1 c0 c1 c2 c3 d0 d1 d2 d3 hn0 hn1 hkg hkg' HH HK HB hll hl2
    show Calls _ _ #[node4 6 a b (.slice ao 2 cap)] _ _
    go_enter Tryz.func103, Tryz.ntmps103
    go_wp2_with fail
    refine Order.region_begin (S := Order.Fresh (w.alloc (.cells #[.int .i64 6, .string a, .string b, .slice ao 2 cap] 47)).drew) (by kernel_rfl) ?_
    refine Order.reads_any (idx := [0, 1, 2, 3, 5, 6, 7, 8]) (by kernel_rfl) (Order.Fresh.refl _) (fun _ _ _ _ _ h => Order.noPanic_put h) 5 _ _ (by decide +kernel) ?_
    simp only [Order.pick, List.getElem?_toArray, List.getElem?_cons_zero, List.getElem?_cons_succ]
    repeat (first
      | (refine Order.reads_off (by rfl) ?_
         simp only [Act.put, List.setIfInBounds_toArray, List.set_cons_zero, List.set_cons_succ])
      | (apply Order.reads_on
         · rfl
         · intro x hx
           first
             | (go_simp; rfl)
             | (obtain ⟨i3, ⟨x0, x1, x2, x3⟩, y0, y1, y2, y3⟩ := HX.out x hx
                go_simp; rfl)
         simp only [Act.put, List.setIfInBounds_toArray, List.set_cons_zero, List.set_cons_succ]))
    refine Order.reads_end ?_
    apply Order.acts_any (R := Order.Fresh) Order.Fresh.trans (i := 4)
    · rfl
    · decide +kernel
    · rfl
    unfold Oper.wp
    go_simp
    refine Calls.mono (HC.out.1 _ HA.out) ?_
    rintro e w1 ⟨u0, rfl, hu0, b1⟩
    obtain ⟨t0, z0, rfl⟩ := hu0.iface
    refine ⟨b1, ?_⟩
    apply Order.acts_any (R := Order.Fresh) Order.Fresh.trans (i := 9)
    · rfl
    · decide +kernel
    · rfl
    unfold Oper.wp
    go_simp
    have hb1 := HA.out.trans (Below.mono b1 HA.out.size)
    refine Calls.mono (HC.out.2 _ hb1) ?_
    rintro e w2 ⟨u1, rfl, hu1, b2⟩
    obtain ⟨t1, z1, rfl⟩ := hu1.iface
    refine ⟨b2, ?_⟩
    refine Order.reads_any (idx := [10, 11, 12]) (by kernel_rfl) (Order.Fresh.refl _) (fun _ _ _ _ _ h => Order.noPanic_put h) 0 _ _ (by decide +kernel) ?_
    simp only [Order.pick, List.getElem?_toArray, List.getElem?_cons_zero, List.getElem?_cons_succ]
    repeat (first
      | (refine Order.reads_off (by rfl) ?_
         simp only [Act.put, List.setIfInBounds_toArray, List.set_cons_zero, List.set_cons_succ])
      | (apply Order.reads_on
         · rfl
         · intro x hx
           first
             | (go_simp; rfl)
             | (fail
                go_simp; rfl)
         simp only [Act.put, List.setIfInBounds_toArray, List.set_cons_zero, List.set_cons_succ]))
    refine Order.reads_end ?_
    refine wpAnyH_done (by decide +kernel) ?_ _
    refine NoPanic.normal ?_
    have HZ := Lib.hid (And.intro (hu0.below b2) (And.intro hu1 (And.intro hb1 b2)))
    clear hu0 hu1 hb1 b1 b2
    go_wp2_with fail
    go_ret
    refine ⟨_, rfl, ?_, HZ.out.2.2.1.trans (HZ.out.2.2.2.mono HZ.out.2.2.1.size)⟩
    rw [IsExpr]
    refine .inr (.inr (.inr (.inr (.inr ⟨rfl, _, _, rfl, ?_⟩))))
    rw [IsExprs]
    refine ⟨_, _, rfl, HZ.out.1.mono HA.out.size, ?_⟩
    rw [IsExprs]
    refine ⟨_, _, rfl, HZ.out.2.1.mono HZ.out.2.2.1.size, ?_⟩
    rw [IsExprs]
end Tr
end Go.Proofs.YtopncohhagebbaaGreatDoor
