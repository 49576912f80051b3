/-
  Layer 5 (tract): the document's Refs.
-/
import Derived.Test.YtleoknhnglbgoaaTrRefA
import Derived.Test.YtleoknhnglbgoaaTrRefsB
import Derived.Test.YtleoknhnglbgoaaOrder
namespace Go.Proofs.Ytleoknhnglbgoaa
open Go.RowKit
namespace Tr
open Knot (Turns NewRow)

theorem rrefs_elem : ∃ i z b, IsElem Try.prog 37 40 i z 3 b ∧ b ≤ 100 := by
  refine ⟨_, _, _, ⟨by kernel_rfl, rfl, rfl, by kernel_rfl, rfl, by kernel_rfl, by omega⟩, ?_⟩
  exact of_decide_eq_true (by kernel_rfl)
/-- A list of the document's references: a slice that its maker owns. -/
def RRefsAt (B : Nat) (x : World) (v : Value) (s : List Rf) : Prop := x.ownsRow B 40 3 v s.length (cellsR s)
/-- What the document's Refs answers. -/
def RRefs (n : Nd) (odd : Bool) (w : World) (e : Ending) (x : World) : Prop := ∃ u, e = .returned u ∧ RRefsAt w.heap.size x u (refs n odd) ∧ Below w.heap.size w x
theorem cellsR_one : ∀ (l : List Rf), ∀ u ∈ cellsR l, u.oneCell' = true := by
  intro l u hu
  rw [cellsR, List.mem_flatMap] at hu
  obtain ⟨r, -, hu⟩ := hu
  simp at hu
  rcases hu with rfl | rfl | rfl <;> rfl
theorem cellsR_len : ∀ l : List Rf, (cellsR l).length = l.length * 3
  | [] => rfl
  | r :: l => by
    have := cellsR_len l
    rw [cellsR] at this ⊢
    rw [List.flatMap_cons, List.length_append, this, List.length_cons, List.length_cons, List.length_cons, List.length_cons, List.length_nil]
    omega
/-- What is new from block B on. -/
def From (B : Nat) (x y : World) : Prop := Below B x y

set_option maxHeartbeats 8000000 in
set_option maxRecDepth 100000 in
theorem rrefs_any : ∀ (q : Nat) (n : Nd) (odd : Bool) (v : Value) (w : World), size n ≤ q → size n ≤ 300 → IsNode w n v →
    Calls Try.prog 13 #[v, .bool odd] w (RRefs n odd w) := by
  intro q
  induction q with
  | zero => intro n odd v w h; have := size_pos n; omega
  | succ q ih =>
    intro n odd v w hk hl hn
    obtain ⟨ao, cap, vs, rfl, -, hks⟩ := hn.kids
    cases n with
    | mk k a b l =>
    have hsz : sizes l ≤ 300 := by rw [size] at hl; omega
    have hll : l.length ≤ 300 := by have := sizes_len l; omega
    have HI := Lib.hid (show ∀ n ∈ l, ∀ odd v w, IsNode w n v → Calls Try.prog 13 #[v, .bool odd] w (RRefs n odd w) from
      fun n hn odd v w => ih n odd v w (by rw [size] at hk; have := sizes_mem hn; omega) (by rw [size] at hl; have := sizes_mem hn; omega))
    have HK : Hid (Kids w l ao vs) := hks
    clear hn ih hk hl hks
    show Calls _ _ #[node4 k a b (.slice ao l.length cap), _] _ _
    have al : Below w.heap.size w (w.alloc (.cells #[.int .i64 k, .string a, .string b, .slice ao l.length cap] 24)) := new_alloc w _
    have HA := Lib.hid al
    have hone : ∀ (x y : ByteArray) (o : Bool) (T : World) (_hT : Below w.heap.size w T), RRefsAt w.heap.size (T.alloc (.cells #[.string x, .string y, .bool o] 40)) (.slice (some ⟨T.heap.size, 0, none⟩) 1 1) [⟨x, y, o⟩] := fun x y o T hT =>
      ⟨rfl, .inr ⟨T.heap.size, 1, _, rfl, hT.size, heap_alloc_new T _, Nat.le_refl _, by unfold maxLen; omega, rfl, rfl⟩⟩
    have HO := Lib.hid hone
    clear al hone
    by_cases h2 : k = 2
    · subst h2
      have HR := Lib.hid (show refs (.mk 2 a b l) odd = [⟨none0, a, odd⟩] by rw [refs]; simp)
      clear HI HK
      go_enter Try.func13, Try.ntmps13
      go_wp2_with fail
      go_ret
      refine ⟨_, rfl, ?_, HA.out.alloc HA.out.size _⟩
      rw [HR.out]
      have := HO.out none0 a odd _ HA.out
      simpa [none0] using this
    by_cases h3 : k = 3
    · subst h3
      have HR := Lib.hid (show refs (.mk 3 a b l) odd = [⟨a, b, odd⟩] by rw [refs]; simp)
      clear HI HK h2
      go_enter Try.func13, Try.ntmps13
      go_wp2_with fail
      go_ret
      refine ⟨_, rfl, ?_, HA.out.alloc HA.out.size _⟩
      rw [HR.out]
      have := HO.out a b odd _ HA.out
      simpa using this
    have HR := Lib.hid (show refs (.mk k a b l) odd = refss k l 0 odd by rw [refs]; simp [h2, h3])
    have e2 : (k == 2) = false := by simpa using h2
    have e3 : (k == 3) = false := by simpa using h3
    clear h2 h3 HO HA
    go_enter Try.func13, Try.ntmps13
    go_wp2_with fail
    clear e2 e3
    go_loopw [5, 28] (fun rv i wr => ∃ j : Nat, j ≤ l.length ∧ i = .int .i64 j ∧ Hid (wr.ownsRow (w.heap.size + 1) 40 3 rv (refss k (l.take j) 0 odd).length (cellsR (refss k (l.take j) 0 odd)) ∧ Below w.heap.size w wr ∧ Box4 w.heap.size k a b (.slice ao l.length cap) wr)) (fun _ i _ => l.length - (intOf i).toNat)
    case atStart => exact ⟨0, by omega, rfl, Lib.hid ⟨World.ownsRow_nil _ _ _ _, new_alloc w _, Box4.new w _ _ _ _⟩⟩
    case round =>
      obtain ⟨j, hj, rfl, HJ⟩ := hrel
      obtain ⟨ro, rc, rfl⟩ := own_slice HJ.out.1
      by_cases hlt : j < l.length
      · obtain ⟨g, q, sa, sc, hix, hg, c0, c1, c2, c3, hn⟩ := HK.out.at cap hlt
        have hC := fun x (hx : Below w.heap.size w x) => HI.out l[j] (List.getElem_mem hlt) (odd != flip k j) _ x (hn.below hx)
        have htk := refss_take k odd hlt
        have hlen : (refss k (l.take j) 0 odd).length + (refs l[j] (odd != flip k j)).length ≤ 300 := by
          have h1 := refss_len k (l.take (j + 1)) 0 odd
          have h2 := sizes_part l (j + 1)
          rw [htk, List.length_append] at h1
          omega
        have HX := Lib.hid (show ∀ x, Below (w.heap.size + 1) wr.drew x → (x.cell? ⟨w.heap.size, 0, none⟩ = some (.int .i64 k) ∧ x.cell? ⟨w.heap.size, 3, none⟩ = some (.slice ao l.length cap)) ∧ x.cell? ⟨g, q, none⟩ = some (.int .i64 l[j].kind) ∧ x.cell? ⟨g, q + 1, none⟩ = some (.string l[j].ta) ∧ x.cell? ⟨g, q + 2, none⟩ = some (.string l[j].tb) ∧ x.cell? ⟨g, q + 3, none⟩ = some (.slice sa l[j].kids.length sc) from fun x hx => by
          have hb : Below w.heap.size w x := HJ.out.2.1.drew.trans (hx.mono (by omega))
          have hbx : Box4 w.heap.size k a b (.slice ao l.length cap) x := (hx.block w.heap.size (by omega)).trans HJ.out.2.2
          exact ⟨⟨hbx.cells.1, hbx.cells.2.2.2⟩, (hb.cell (p := ⟨g, q, none⟩) hg).trans c0, (hb.cell (p := ⟨g, q + 1, none⟩) hg).trans c1, (hb.cell (p := ⟨g, q + 2, none⟩) hg).trans c2, (hb.cell (p := ⟨g, q + 3, none⟩) hg).trans c3⟩)
        have HC := Lib.hid hC
        have HL := Lib.hid (And.intro htk hlen)
        have hj3 : j ≤ 300 := by omega
        clear c0 c1 c2 c3 hg hn hC htk hlen
        have three : (k ≠ 6) ∨ (k = 6 ∧ j = 1) ∨ (k = 6 ∧ j ≠ 1) := by omega
        rcases three with h3 | h3 | h3
        · have e6 : (k == 6) = false := by simpa using h3
          rw [show flip k j = false by rw [flip, e6, Bool.false_and], Bool.bne_false] at HC HL
          clear h3
          obtain ⟨ti, tz, tb', T, hT⟩ := rrefs_elem
          have HT := Lib.hid (And.intro T hT)
          clear T hT hsz hll
          go_wp2_with fail
          refine Order.region_begin (S := Below (w.heap.size + 1) wr.drew) (by kernel_rfl) ?_
          refine Order.reads_any (idx := [0, 1, 2, 3, 4, 5, 6, 7, 8, 9, 10, 11, 12, 13, 14]) (by kernel_rfl) (Below.refl _ _) (fun _ _ _ _ _ h => Order.noPanic_put h) 3 _ _ (by decide +kernel) ?_
          simp only [Order.pick, List.getElem?_toArray, List.getElem?_cons_zero, List.getElem?_cons_succ]
          repeat (first
            | (refine Order.reads_off (by rfl) ?_
               simp only [Act.put, List.setIfInBounds_toArray, List.set_cons_zero, List.set_cons_succ])
            | (apply Order.reads_on
               · rfl
               · intro x hx
                 first
                   | (go_simp; rfl)
                   | (obtain ⟨⟨a0, a3⟩, d0, d1, d2, d3⟩ := HX.out x hx
                      go_simp; rfl)
               simp only [Act.put, List.setIfInBounds_toArray, List.set_cons_zero, List.set_cons_succ]))
          refine Order.reads_end ?_
          apply Order.acts_any (R := Below (w.heap.size + 1)) (fun h k => h.trans k) (i := 15)
          · rfl
          · decide +kernel
          · rfl
          unfold Oper.wp
          go_simp
          refine Calls.mono (HC.out _ HJ.out.2.1.drew) ?_
          rintro e w1 ⟨u, rfl, hu, b1⟩
          have hwz : w.heap.size < wr.heap.size := HJ.out.2.2.lt
          have b1' : Below wr.heap.size wr w1 := (Below.refl _ _).drew.trans b1
          have o1 := own_below HJ.out.1 b1'
          refine ⟨b1.mono (by show w.heap.size + 1 ≤ wr.heap.size; omega), ?_⟩
          have H1 := Lib.hid (And.intro o1 (And.intro hu (And.intro (HJ.out.2.1.trans (b1'.mono HJ.out.2.1.size)) (And.intro (HJ.out.2.2.on b1') hwz))))
          have hw1 := b1'.size
          clear o1 hu b1 b1' HX HC
          obtain ⟨uo, uc, rfl⟩ := own_slice H1.out.2.1
          have hdone : ∀ v2 z, z.ownsRow (w.heap.size + 1) 40 3 v2 ((refss k (l.take j) 0 odd).length + (refs l[j] odd).length) (cellsR (refss k (l.take j) 0 odd) ++ cellsR (refs l[j] odd)) → Below (w.heap.size + 1) w1 z →
              Hid (z.ownsRow (w.heap.size + 1) 40 3 v2 (refss k (l.take (j + 1)) 0 odd).length (cellsR (refss k (l.take (j + 1)) 0 odd)) ∧ Below w.heap.size w z ∧ Box4 w.heap.size k a b (.slice ao l.length cap) z) := fun v2 z hz hbz => by
            rw [HL.out.1, List.length_append, cellsR_append]
            exact Lib.hid ⟨hz, H1.out.2.2.1.trans (hbz.mono (by omega)), (hbz.block w.heap.size (by omega)).trans H1.out.2.2.2.1⟩
          apply Order.acts_any (R := Below (w.heap.size + 1)) (fun h k => h.trans k) (i := 16)
          · rfl
          · decide +kernel
          · rfl
          cases uo with
          | none =>
            have h0 : (refs l[j] odd).length = 0 ∧ uc = 0 := by
              rcases H1.out.2.1.2 with ⟨h, h'⟩ | ⟨g', cap', cur', h, -⟩
              · exact ⟨h', by simpa [h'] using h⟩
              · simp at h
            have hnil : refs l[j] odd = [] := List.eq_nil_of_length_eq_zero h0.1
            obtain rfl : uc = 0 := h0.2
            refine wp_none HT.out.1 _ _ rfl rfl (by show Value.slice none (refs l[j] odd).length 0 = _; rw [h0.1]) H1.out.1 (by have := HL.out.2; omega) ?_
            refine ⟨Below.refl _ _, ?_⟩
            have HD := hdone _ w1 (by rw [hnil, show cellsR [] = [] from rfl, List.append_nil, List.length_nil, Nat.add_zero]; exact H1.out.1) (Below.refl _ _)
            clear hdone hnil h0 H1 HJ HL HT hw1 hwz
            simp only [Act.put, List.setIfInBounds_toArray]
            refine Order.reads_any (idx := [17]) (by kernel_rfl) (Below.refl _ _) (fun _ _ _ _ _ h => Order.noPanic_put h) 0 _ _ (by decide +kernel) ?_
            simp only [Order.pick, List.getElem?_toArray, List.getElem?_cons_zero, List.getElem?_cons_succ]
            repeat (first
              | (refine Order.reads_off (by rfl) ?_
                 simp only [Act.put, List.setIfInBounds_toArray, List.set_cons_zero, List.set_cons_succ])
              | (apply Order.reads_on
                 · rfl
                 · intro x hx
                   first
                     | (go_simp; rfl)
                     | (fail
                        go_simp; rfl)
                 simp only [Act.put]))
            refine Order.reads_end ?_
            refine wpAnyH_done (by decide +kernel) ?_ _
            refine NoPanic.normal ?_
            go_wp2_with fail
            go_roundw
            case rel => exact ⟨_, hlt, by go_num, HD⟩
            case measure => simp [intOf]; omega
          | some ua =>
            obtain ⟨ug, ucc, hua, hc⟩ : ∃ ug ucc, Value.slice (some ua) (refs l[j] odd).length uc = .slice (some ⟨ug, 0, none⟩) (refs l[j] odd).length ucc ∧ ∀ i u, (cellsR (refs l[j] odd))[i]? = some u → w1.cell? ((⟨ug, 0, none⟩ : Addr).add i) = some u := by
              rcases H1.out.2.1.2 with ⟨h, -⟩ | ⟨g', cap', cur', h, -⟩
              · simp at h
              · refine ⟨g', cap', h, ?_⟩
                have h2 := H1.out.2.1
                rw [h] at h2
                exact h2.cells (g := g') rfl
            obtain ⟨rfl, -, rfl⟩ : ua = ⟨ug, 0, none⟩ ∧ (refs l[j] odd).length = (refs l[j] odd).length ∧ uc = ucc := by simpa using hua
            refine wp_rows HT.out.1 _ _ rfl rfl rfl H1.out.1 (by omega) (m := (refs l[j] odd).length) (news := cellsR (refs l[j] odd)) (cellsR_len _) hc (cellsR_one _) (by have := HL.out.2; omega) (Nat.le_trans (Nat.mul_le_mul_left _ HT.out.2) (by have := HL.out.2; omega)) ?_
            intro v2 z o2 g2 n2
            have hbz : Below (w.heap.size + 1) w1 z := (Below.refl _ _).grown g2 (by omega) fun k hk => (H1.out.1.lt k hk).1
            refine ⟨hbz, ?_⟩
            have HD := hdone v2 z o2 hbz
            obtain ⟨vo, vc, rfl⟩ := own_slice o2
            clear hdone o2 g2 n2 hbz hc hua H1 HJ HL HT hw1 hwz
            simp only [Act.put, List.setIfInBounds_toArray]
            refine Order.reads_any (idx := [17]) (by kernel_rfl) (Below.refl _ _) (fun _ _ _ _ _ h => Order.noPanic_put h) 0 _ _ (by decide +kernel) ?_
            simp only [Order.pick, List.getElem?_toArray, List.getElem?_cons_zero, List.getElem?_cons_succ]
            repeat (first
              | (refine Order.reads_off (by rfl) ?_
                 simp only [Act.put, List.setIfInBounds_toArray, List.set_cons_zero, List.set_cons_succ])
              | (apply Order.reads_on
                 · rfl
                 · intro x hx
                   first
                     | (go_simp; rfl)
                     | (fail
                        go_simp; rfl)
                 simp only [Act.put]))
            refine Order.reads_end ?_
            refine wpAnyH_done (by decide +kernel) ?_ _
            refine NoPanic.normal ?_
            go_wp2_with fail
            go_roundw
            case rel => exact ⟨_, hlt, by go_num, HD⟩
            case measure => simp [intOf]; omega
        · obtain ⟨rfl, h3⟩ := h3
          have e1 : ((j : Int) == 1) = true := by simp; omega
          rw [show flip 6 j = true by rw [flip]; simp; omega, Bool.bne_true] at HC HL
          clear h3
          obtain ⟨ti, tz, tb', T, hT⟩ := rrefs_elem
          have HT := Lib.hid (And.intro T hT)
          clear T hT hsz hll
          go_wp2_with fail
          refine Order.region_begin (S := Below (w.heap.size + 1) wr.drew) (by kernel_rfl) ?_
          refine Order.reads_any (idx := [0, 1, 2, 3, 4, 5, 6, 7, 8, 9, 10, 11, 12, 13, 14]) (by kernel_rfl) (Below.refl _ _) (fun _ _ _ _ _ h => Order.noPanic_put h) 3 _ _ (by decide +kernel) ?_
          simp only [Order.pick, List.getElem?_toArray, List.getElem?_cons_zero, List.getElem?_cons_succ]
          repeat (first
            | (refine Order.reads_off (by rfl) ?_
               simp only [Act.put, List.setIfInBounds_toArray, List.set_cons_zero, List.set_cons_succ])
            | (apply Order.reads_on
               · rfl
               · intro x hx
                 first
                   | (go_simp; rfl)
                   | (obtain ⟨⟨a0, a3⟩, d0, d1, d2, d3⟩ := HX.out x hx
                      go_simp; rfl)
               simp only [Act.put, List.setIfInBounds_toArray, List.set_cons_zero, List.set_cons_succ]))
          refine Order.reads_end ?_
          apply Order.acts_any (R := Below (w.heap.size + 1)) (fun h k => h.trans k) (i := 15)
          · rfl
          · decide +kernel
          · rfl
          unfold Oper.wp
          go_simp
          refine Calls.mono (HC.out _ HJ.out.2.1.drew) ?_
          rintro e w1 ⟨u, rfl, hu, b1⟩
          have hwz : w.heap.size < wr.heap.size := HJ.out.2.2.lt
          have b1' : Below wr.heap.size wr w1 := (Below.refl _ _).drew.trans b1
          have o1 := own_below HJ.out.1 b1'
          refine ⟨b1.mono (by show w.heap.size + 1 ≤ wr.heap.size; omega), ?_⟩
          have H1 := Lib.hid (And.intro o1 (And.intro hu (And.intro (HJ.out.2.1.trans (b1'.mono HJ.out.2.1.size)) (And.intro (HJ.out.2.2.on b1') hwz))))
          have hw1 := b1'.size
          clear o1 hu b1 b1' HX HC
          obtain ⟨uo, uc, rfl⟩ := own_slice H1.out.2.1
          have hdone : ∀ v2 z, z.ownsRow (w.heap.size + 1) 40 3 v2 ((refss 6 (l.take j) 0 odd).length + (refs l[j] (!odd)).length) (cellsR (refss 6 (l.take j) 0 odd) ++ cellsR (refs l[j] (!odd))) → Below (w.heap.size + 1) w1 z →
              Hid (z.ownsRow (w.heap.size + 1) 40 3 v2 (refss 6 (l.take (j + 1)) 0 odd).length (cellsR (refss 6 (l.take (j + 1)) 0 odd)) ∧ Below w.heap.size w z ∧ Box4 w.heap.size 6 a b (.slice ao l.length cap) z) := fun v2 z hz hbz => by
            rw [HL.out.1, List.length_append, cellsR_append]
            exact Lib.hid ⟨hz, H1.out.2.2.1.trans (hbz.mono (by omega)), (hbz.block w.heap.size (by omega)).trans H1.out.2.2.2.1⟩
          apply Order.acts_any (R := Below (w.heap.size + 1)) (fun h k => h.trans k) (i := 16)
          · rfl
          · decide +kernel
          · rfl
          cases uo with
          | none =>
            have h0 : (refs l[j] (!odd)).length = 0 ∧ uc = 0 := by
              rcases H1.out.2.1.2 with ⟨h, h'⟩ | ⟨g', cap', cur', h, -⟩
              · exact ⟨h', by simpa [h'] using h⟩
              · simp at h
            have hnil : refs l[j] (!odd) = [] := List.eq_nil_of_length_eq_zero h0.1
            obtain rfl : uc = 0 := h0.2
            refine wp_none HT.out.1 _ _ rfl rfl (by show Value.slice none (refs l[j] (!odd)).length 0 = _; rw [h0.1]) H1.out.1 (by have := HL.out.2; omega) ?_
            refine ⟨Below.refl _ _, ?_⟩
            have HD := hdone _ w1 (by rw [hnil, show cellsR [] = [] from rfl, List.append_nil, List.length_nil, Nat.add_zero]; exact H1.out.1) (Below.refl _ _)
            clear hdone hnil h0 H1 HJ HL HT hw1 hwz
            simp only [Act.put, List.setIfInBounds_toArray]
            refine Order.reads_any (idx := [17]) (by kernel_rfl) (Below.refl _ _) (fun _ _ _ _ _ h => Order.noPanic_put h) 0 _ _ (by decide +kernel) ?_
            simp only [Order.pick, List.getElem?_toArray, List.getElem?_cons_zero, List.getElem?_cons_succ]
            repeat (first
              | (refine Order.reads_off (by rfl) ?_
                 simp only [Act.put, List.setIfInBounds_toArray, List.set_cons_zero, List.set_cons_succ])
              | (apply Order.reads_on
                 · rfl
                 · intro x hx
                   first
                     | (go_simp; rfl)
                     | (fail
                        go_simp; rfl)
                 simp only [Act.put]))
            refine Order.reads_end ?_
            refine wpAnyH_done (by decide +kernel) ?_ _
            refine NoPanic.normal ?_
            go_wp2_with fail
            go_roundw
            case rel => exact ⟨_, hlt, by go_num, HD⟩
            case measure => simp [intOf]; omega
          | some ua =>
            obtain ⟨ug, ucc, hua, hc⟩ : ∃ ug ucc, Value.slice (some ua) (refs l[j] (!odd)).length uc = .slice (some ⟨ug, 0, none⟩) (refs l[j] (!odd)).length ucc ∧ ∀ i u, (cellsR (refs l[j] (!odd)))[i]? = some u → w1.cell? ((⟨ug, 0, none⟩ : Addr).add i) = some u := by
              rcases H1.out.2.1.2 with ⟨h, -⟩ | ⟨g', cap', cur', h, -⟩
              · simp at h
              · refine ⟨g', cap', h, ?_⟩
                have h2 := H1.out.2.1
                rw [h] at h2
                exact h2.cells (g := g') rfl
            obtain ⟨rfl, -, rfl⟩ : ua = ⟨ug, 0, none⟩ ∧ (refs l[j] (!odd)).length = (refs l[j] (!odd)).length ∧ uc = ucc := by simpa using hua
            refine wp_rows HT.out.1 _ _ rfl rfl rfl H1.out.1 (by omega) (m := (refs l[j] (!odd)).length) (news := cellsR (refs l[j] (!odd))) (cellsR_len _) hc (cellsR_one _) (by have := HL.out.2; omega) (Nat.le_trans (Nat.mul_le_mul_left _ HT.out.2) (by have := HL.out.2; omega)) ?_
            intro v2 z o2 g2 n2
            have hbz : Below (w.heap.size + 1) w1 z := (Below.refl _ _).grown g2 (by omega) fun k hk => (H1.out.1.lt k hk).1
            refine ⟨hbz, ?_⟩
            have HD := hdone v2 z o2 hbz
            obtain ⟨vo, vc, rfl⟩ := own_slice o2
            clear hdone o2 g2 n2 hbz hc hua H1 HJ HL HT hw1 hwz
            simp only [Act.put, List.setIfInBounds_toArray]
            refine Order.reads_any (idx := [17]) (by kernel_rfl) (Below.refl _ _) (fun _ _ _ _ _ h => Order.noPanic_put h) 0 _ _ (by decide +kernel) ?_
            simp only [Order.pick, List.getElem?_toArray, List.getElem?_cons_zero, List.getElem?_cons_succ]
            repeat (first
              | (refine Order.reads_off (by rfl) ?_
                 simp only [Act.put, List.setIfInBounds_toArray, List.set_cons_zero, List.set_cons_succ])
              | (apply Order.reads_on
                 · rfl
                 · intro x hx
                   first
                     | (go_simp; rfl)
                     | (fail
                        go_simp; rfl)
                 simp only [Act.put]))
            refine Order.reads_end ?_
            refine wpAnyH_done (by decide +kernel) ?_ _
            refine NoPanic.normal ?_
            go_wp2_with fail
            go_roundw
            case rel => exact ⟨_, hlt, by go_num, HD⟩
            case measure => simp [intOf]; omega
        · obtain ⟨rfl, h3⟩ := h3
          have e1 : ((j : Int) == 1) = false := by simp; omega
          rw [show flip 6 j = false by rw [flip]; simp; omega, Bool.bne_false] at HC HL
          clear h3
          obtain ⟨ti, tz, tb', T, hT⟩ := rrefs_elem
          have HT := Lib.hid (And.intro T hT)
          clear T hT hsz hll
          go_wp2_with fail
          refine Order.region_begin (S := Below (w.heap.size + 1) wr.drew) (by kernel_rfl) ?_
          refine Order.reads_any (idx := [0, 1, 2, 3, 4, 5, 6, 7, 8, 9, 10, 11, 12, 13, 14]) (by kernel_rfl) (Below.refl _ _) (fun _ _ _ _ _ h => Order.noPanic_put h) 3 _ _ (by decide +kernel) ?_
          simp only [Order.pick, List.getElem?_toArray, List.getElem?_cons_zero, List.getElem?_cons_succ]
          repeat (first
            | (refine Order.reads_off (by rfl) ?_
               simp only [Act.put, List.setIfInBounds_toArray, List.set_cons_zero, List.set_cons_succ])
            | (apply Order.reads_on
               · rfl
               · intro x hx
                 first
                   | (go_simp; rfl)
                   | (obtain ⟨⟨a0, a3⟩, d0, d1, d2, d3⟩ := HX.out x hx
                      go_simp; rfl)
               simp only [Act.put, List.setIfInBounds_toArray, List.set_cons_zero, List.set_cons_succ]))
          refine Order.reads_end ?_
          apply Order.acts_any (R := Below (w.heap.size + 1)) (fun h k => h.trans k) (i := 15)
          · rfl
          · decide +kernel
          · rfl
          unfold Oper.wp
          go_simp
          refine Calls.mono (HC.out _ HJ.out.2.1.drew) ?_
          rintro e w1 ⟨u, rfl, hu, b1⟩
          have hwz : w.heap.size < wr.heap.size := HJ.out.2.2.lt
          have b1' : Below wr.heap.size wr w1 := (Below.refl _ _).drew.trans b1
          have o1 := own_below HJ.out.1 b1'
          refine ⟨b1.mono (by show w.heap.size + 1 ≤ wr.heap.size; omega), ?_⟩
          have H1 := Lib.hid (And.intro o1 (And.intro hu (And.intro (HJ.out.2.1.trans (b1'.mono HJ.out.2.1.size)) (And.intro (HJ.out.2.2.on b1') hwz))))
          have hw1 := b1'.size
          clear o1 hu b1 b1' HX HC
          obtain ⟨uo, uc, rfl⟩ := own_slice H1.out.2.1
          have hdone : ∀ v2 z, z.ownsRow (w.heap.size + 1) 40 3 v2 ((refss 6 (l.take j) 0 odd).length + (refs l[j] odd).length) (cellsR (refss 6 (l.take j) 0 odd) ++ cellsR (refs l[j] odd)) → Below (w.heap.size + 1) w1 z →
              Hid (z.ownsRow (w.heap.size + 1) 40 3 v2 (refss 6 (l.take (j + 1)) 0 odd).length (cellsR (refss 6 (l.take (j + 1)) 0 odd)) ∧ Below w.heap.size w z ∧ Box4 w.heap.size 6 a b (.slice ao l.length cap) z) := fun v2 z hz hbz => by
            rw [HL.out.1, List.length_append, cellsR_append]
            exact Lib.hid ⟨hz, H1.out.2.2.1.trans (hbz.mono (by omega)), (hbz.block w.heap.size (by omega)).trans H1.out.2.2.2.1⟩
          apply Order.acts_any (R := Below (w.heap.size + 1)) (fun h k => h.trans k) (i := 16)
          · rfl
          · decide +kernel
          · rfl
          cases uo with
          | none =>
            have h0 : (refs l[j] odd).length = 0 ∧ uc = 0 := by
              rcases H1.out.2.1.2 with ⟨h, h'⟩ | ⟨g', cap', cur', h, -⟩
              · exact ⟨h', by simpa [h'] using h⟩
              · simp at h
            have hnil : refs l[j] odd = [] := List.eq_nil_of_length_eq_zero h0.1
            obtain rfl : uc = 0 := h0.2
            refine wp_none HT.out.1 _ _ rfl rfl (by show Value.slice none (refs l[j] odd).length 0 = _; rw [h0.1]) H1.out.1 (by have := HL.out.2; omega) ?_
            refine ⟨Below.refl _ _, ?_⟩
            have HD := hdone _ w1 (by rw [hnil, show cellsR [] = [] from rfl, List.append_nil, List.length_nil, Nat.add_zero]; exact H1.out.1) (Below.refl _ _)
            clear hdone hnil h0 H1 HJ HL HT hw1 hwz
            simp only [Act.put, List.setIfInBounds_toArray]
            refine Order.reads_any (idx := [17]) (by kernel_rfl) (Below.refl _ _) (fun _ _ _ _ _ h => Order.noPanic_put h) 0 _ _ (by decide +kernel) ?_
            simp only [Order.pick, List.getElem?_toArray, List.getElem?_cons_zero, List.getElem?_cons_succ]
            repeat (first
              | (refine Order.reads_off (by rfl) ?_
                 simp only [Act.put, List.setIfInBounds_toArray, List.set_cons_zero, List.set_cons_succ])
              | (apply Order.reads_on
                 · rfl
                 · intro x hx
                   first
                     | (go_simp; rfl)
                     | (fail
                        go_simp; rfl)
                 simp only [Act.put]))
            refine Order.reads_end ?_
            refine wpAnyH_done (by decide +kernel) ?_ _
            refine NoPanic.normal ?_
            go_wp2_with fail
            go_roundw
            case rel => exact ⟨_, hlt, by go_num, HD⟩
            case measure => simp [intOf]; omega
          | some ua =>
            obtain ⟨ug, ucc, hua, hc⟩ : ∃ ug ucc, Value.slice (some ua) (refs l[j] odd).length uc = .slice (some ⟨ug, 0, none⟩) (refs l[j] odd).length ucc ∧ ∀ i u, (cellsR (refs l[j] odd))[i]? = some u → w1.cell? ((⟨ug, 0, none⟩ : Addr).add i) = some u := by
              rcases H1.out.2.1.2 with ⟨h, -⟩ | ⟨g', cap', cur', h, -⟩
              · simp at h
              · refine ⟨g', cap', h, ?_⟩
                have h2 := H1.out.2.1
                rw [h] at h2
                exact h2.cells (g := g') rfl
            obtain ⟨rfl, -, rfl⟩ : ua = ⟨ug, 0, none⟩ ∧ (refs l[j] odd).length = (refs l[j] odd).length ∧ uc = ucc := by simpa using hua
            refine wp_rows HT.out.1 _ _ rfl rfl rfl H1.out.1 (by omega) (m := (refs l[j] odd).length) (news := cellsR (refs l[j] odd)) (cellsR_len _) hc (cellsR_one _) (by have := HL.out.2; omega) (Nat.le_trans (Nat.mul_le_mul_left _ HT.out.2) (by have := HL.out.2; omega)) ?_
            intro v2 z o2 g2 n2
            have hbz : Below (w.heap.size + 1) w1 z := (Below.refl _ _).grown g2 (by omega) fun k hk => (H1.out.1.lt k hk).1
            refine ⟨hbz, ?_⟩
            have HD := hdone v2 z o2 hbz
            obtain ⟨vo, vc, rfl⟩ := own_slice o2
            clear hdone o2 g2 n2 hbz hc hua H1 HJ HL HT hw1 hwz
            simp only [Act.put, List.setIfInBounds_toArray]
            refine Order.reads_any (idx := [17]) (by kernel_rfl) (Below.refl _ _) (fun _ _ _ _ _ h => Order.noPanic_put h) 0 _ _ (by decide +kernel) ?_
            simp only [Order.pick, List.getElem?_toArray, List.getElem?_cons_zero, List.getElem?_cons_succ]
            repeat (first
              | (refine Order.reads_off (by rfl) ?_
                 simp only [Act.put, List.setIfInBounds_toArray, List.set_cons_zero, List.set_cons_succ])
              | (apply Order.reads_on
                 · rfl
                 · intro x hx
                   first
                     | (go_simp; rfl)
                     | (fail
                        go_simp; rfl)
                 simp only [Act.put]))
            refine Order.reads_end ?_
            refine wpAnyH_done (by decide +kernel) ?_ _
            refine NoPanic.normal ?_
            go_wp2_with fail
            go_roundw
            case rel => exact ⟨_, hlt, by go_num, HD⟩
            case measure => simp [intOf]; omega
      · have hj' : j = l.length := by omega
        subst hj'
        have hJ := HJ.out
        rw [List.take_length] at hJ
        have HF := Lib.hid hJ
        rw [List.take_length]
        clear HJ hJ HI HK
        go_wp2_with fail
        go_ret
        refine ⟨_, rfl, ?_, HF.out.2.1⟩
        rw [HR.out]
        have h := HF.out.1
        exact ⟨h.1, h.2.imp id fun ⟨g, cap, cur, h1, h2, h3⟩ => ⟨g, cap, cur, h1, by omega, h3⟩⟩
end Tr
end Go.Proofs.Ytleoknhnglbgoaa
