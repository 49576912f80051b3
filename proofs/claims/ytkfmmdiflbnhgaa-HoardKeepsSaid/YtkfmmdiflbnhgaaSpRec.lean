/-
  Layer 13: the program's record: the one that stands from the tail on.
-/
import Derived.Test.YtkfmmdiflbnhgaaSgpB
import Derived.Deep.CutBlock
namespace Go.Proofs.Ytkfmmdiflbnhgaa
set_option maxRecDepth 100000
open Go.RowKit
open Knot (Turns NewRow)
open Ta (IsBytes Stay sec nul ptr IsT)
open Tr (own_turn own_below own_slice)
namespace Sp
def plC (e n p o : Nat) : Array Value := #[.int .i64 (e : Int), .int .i64 (n : Int), .int .i64 (p : Int), .int .i64 (o : Int)]
section
variable {rd : Nat → List UInt8} {n least epoch : Nat}
theorem rec_none (h : ¬ (0 < ofO (rd n) ∧ least ≤ epO (rd n) ∧ epO (rd n) < epoch ∧ All rd n (epO (rd n)) (ofO (rd n)) ∧ (bytes rd n (ofO (rd n))).length ≤ 60000)) : rec rd n least epoch = none := if_neg h
theorem rec_some (h : 0 < ofO (rd n) ∧ least ≤ epO (rd n) ∧ epO (rd n) < epoch ∧ All rd n (epO (rd n)) (ofO (rd n)) ∧ (bytes rd n (ofO (rd n))).length ≤ 60000) : rec rd n least epoch = some (bytes rd n (ofO (rd n)), epO (rd n), ofO (rd n)) := if_pos h
theorem all_whole (hb : (rd n).length = 128) (hn : n < 281474976710656) (h0 : 0 < ofO (rd n)) (h : All rd n (epO (rd n)) (ofO (rd n))) : Whole (rd n) :=
  ((h 0 h0).whole (epO_lt hb) hn (by omega) (ofO_lt hb)).1
theorem bytes_len (hb : ∀ k, (rd k).length = 128) (k : Nat) (h : ∀ j, j < k → szO (rd (n + j)) ≤ 108) : (bytes rd n k).length ≤ 108 * k := by
  induction k with
  | zero => simp [bytes]
  | succ k ih =>
    have h1 := ih fun j hj => h j (by omega)
    have h2 := h k (by omega)
    rw [bytes_succ, List.length_append, owO_len (hb _) h2]
    omega
end
theorem neq_pl (a1 a2 a3 a4 b1 b2 b3 b4 : Nat) (W : World) : (binOp .neq tPl (.agg (plC a1 a2 a3 a4)) (.agg (plC b1 b2 b3 b4))).run Try.prog W = .ok (.bool (decide (¬ (a1 = b1 ∧ a2 = b2 ∧ a3 = b3 ∧ a4 = b4)))) W := by
  unfold plC
  by_cases h1 : a1 = b1
  · have e1 : ((a1 : Int) == (b1 : Int)) = true := by simp [h1]
    by_cases h2 : a2 = b2
    · have e2 : ((a2 : Int) == (b2 : Int)) = true := by simp [h2]
      by_cases h3 : a3 = b3
      · have e3 : ((a3 : Int) == (b3 : Int)) = true := by simp [h3]
        by_cases h4 : a4 = b4
        · have e4 : ((a4 : Int) == (b4 : Int)) = true := by simp [h4]
          rw [decide_eq_false (by omega)]
          clear h1 h2 h3 h4
          go_simp
        · have e4 : ((a4 : Int) == (b4 : Int)) = false := by simp; omega
          rw [decide_eq_true (by omega)]
          clear h1 h2 h3 h4
          go_simp
      · have e3 : ((a3 : Int) == (b3 : Int)) = false := by simp; omega
        rw [decide_eq_true (by omega)]
        clear h1 h2 h3
        go_simp
    · have e2 : ((a2 : Int) == (b2 : Int)) = false := by simp; omega
      rw [decide_eq_true (by omega)]
      clear h1 h2
      go_simp
  · have e1 : ((a1 : Int) == (b1 : Int)) = false := by simp; omega
    rw [decide_eq_true (by omega)]
    clear h1
    go_simp
/-- Bytes behind bytes of one's own. -/
theorem app_bytes {w : World} {B : Nat} {r v : Value} {l b : List UInt8} (hown : w.ownsRow B Ta.tBy 1 r l.length (Lib.byteCells l)) (hB : B ≤ w.heap.size) (h : IsBytes w v b) (ty : TypeId) (hz : l.length + b.length ≤ 100000000) :
    ∃ r' y, (Builtin.append_ #[Ta.tBs, Ta.tBs] ty #[r, v]).run Try.prog w = .ok r' y ∧ y.ownsRow B Ta.tBy 1 r' (l ++ b).length (Lib.byteCells (l ++ b)) ∧ w.grownBy y r.ownBlock := by
  obtain ⟨i, z, T⟩ := Ta.byElem
  obtain ⟨ao, cap, rfl, h1, h2, h3⟩ := h
  by_cases hb : b.length = 0
  · obtain rfl : b = [] := List.eq_nil_of_length_eq_zero hb
    rw [List.append_nil]
    cases ao with
    | none => exact ⟨r, w, Ta.append_nil T ty hown (by omega), hown, ⟨rfl, rfl, rfl, Nat.le_refl _, fun _ _ _ => rfl⟩⟩
    | some a =>
      obtain ⟨r', y, g1, g2, g3, -⟩ := Tr.append_rows T ty hown hB (m := 0) (news := []) (ad := a) (c := cap) rfl (fun j u hj => by simp at hj) (fun u hu => by simp at hu) (by omega) (by omega)
      rw [List.append_nil] at g2
      exact ⟨r', y, g1, g2, g3⟩
  · obtain ⟨g, o, rfl, hc⟩ := h3 hb
    obtain ⟨r', y, g1, g2, g3, -⟩ := Tr.append_rows T ty hown hB (m := b.length) (news := Lib.byteCells b) (ad := ⟨g, o, none⟩) (c := cap) (by rw [Lib.byteCells_length]; omega) (fun j u hj => by rw [Tr.addp]; exact hc j u hj) (Ta.one_bytes b) (by omega) (by omega)
    refine ⟨r', y, g1, ?_, g3⟩
    rw [List.length_append, show Lib.byteCells (l ++ b) = Lib.byteCells l ++ Lib.byteCells b by simp [Lib.byteCells]]
    exact g2
theorem walk_bytes {ops : Array Oper} {rest : List Oper} {o : Oper} {a : Go.Act} {w : World} {Q : Exit → Go.Act → World → Prop} {B : Nat} {r v : Value} {l b : List UInt8} (hgd : o.guard = none) (s q : Operand) (ho : o.op = .call { callee := .builtin .append, args := #[s, q], argTypes := #[Ta.tBs, Ta.tBs] })
    (hs : a.eval s = r) (hq : a.eval q = v) (hown : w.ownsRow B Ta.tBy 1 r l.length (Lib.byteCells l)) (hB : B ≤ w.heap.size) (h : IsBytes w v b) (hz : l.length + b.length ≤ 100000000)
    (hK : ∀ r' y, y.ownsRow B Ta.tBy 1 r' (l ++ b).length (Lib.byteCells (l ++ b)) → w.grownBy y r.ownBlock → wpList Try.prog ops Q rest (a.put o.dst r') y) : wpList Try.prog ops Q (o :: rest) a w := by
  refine wpList_plain hgd fun K hK' => ?_
  obtain ⟨r', y, hr, h2, h3⟩ := app_bytes hown hB h o.type hz
  unfold Oper.wp execOp
  simp only [ho, resolve, invoke, builtin, Sem.run_bind, Sem.run_pure, Result.andThen_ok, List.map_toArray, List.map_cons, List.map_nil, hs, hq, hr]
  exact hK' _ _ (hK r' y h2 h3)
def st4 (x : World) (R : Nat) (a b c d : Value) : World := (((x.setCell ⟨R, 0, none⟩ a).setCell ⟨R, 1, none⟩ b).setCell ⟨R, 2, none⟩ c).setCell ⟨R, 3, none⟩ d
theorem st4_turns (x : World) (R : Nat) (a b c d : Value) : Turns (fun k => k = R) x (st4 x R a b c d) :=
  ((((Turns.refl (fun k => k = R) x).setCell (p := ⟨R, 0, none⟩) rfl a).setCell (p := ⟨R, 1, none⟩) rfl b).setCell (p := ⟨R, 2, none⟩) rfl c).setCell (p := ⟨R, 3, none⟩) rfl d
theorem PlB.put {x : World} {R a b c d : Nat} (h : PlB x R a b c d) (e n p o : Nat) : PlB (st4 x R (.int .i64 (e : Int)) (.int .i64 (n : Int)) (.int .i64 (p : Int)) (.int .i64 (o : Int))) R e n p o := by
  have i1 := heap_setCell_same x R 0 _ tPl (.int .i64 (e : Int)) h
  have i2 := heap_setCell_same _ R 1 _ tPl (.int .i64 (n : Int)) i1
  have i3 := heap_setCell_same _ R 2 _ tPl (.int .i64 (p : Int)) i2
  exact heap_setCell_same _ R 3 _ tPl (.int .i64 (o : Int)) i3
theorem PlB.free {x : World} {R a b c d : Nat} (h : PlB x R a b c d) : x.frozen? ⟨R, 0, none⟩ = false ∧ x.frozen? ⟨R, 1, none⟩ = false ∧ x.frozen? ⟨R, 2, none⟩ = false ∧ x.frozen? ⟨R, 3, none⟩ = false :=
  ⟨Lib.frozen_of_heap h 0, Lib.frozen_of_heap h 1, Lib.frozen_of_heap h 2, Lib.frozen_of_heap h 3⟩
section
variable {w : World} {q p n : Nat} {s : S} {t : Ta.Tray (List UInt8)} {F : Nat → Prop}
set_option maxHeartbeats 16000000 in
set_option maxRecDepth 100000 in
theorem record_any (least : Nat) (h : SpB w q p s) (hs : Fits s) (ht : IsT w p n t F) (hn : s.first + s.count ≤ n) :
    Calls Try.prog 77 #[ptr q, .int .i64 (least : Int)] w fun e x => ∃ (pe pn pp po : Nat) (bv : Value), e = .returned (.tuple #[bv, .agg (plC pe pn pp po), .bool (rec (rdS t s) s.tail least s.epoch).isSome]) ∧ Below w.heap.size w x ∧
      (∃ a m c, bv = .slice a m c) ∧ pe < 281474976710656 ∧ po < 281474976710656 ∧ ∀ b e' o', rec (rdS t s) s.tail least s.epoch = some (b, e', o') → pe = e' ∧ po = o' ∧ Stay (fun k => k < w.heap.size) x (fun y => IsBytes y bv b) := by
  have hrl := fun k => rdS_len ht s k
  have HP := Lib.hid (show ∀ (k : Nat) x, k ≤ 281474976710656 → Below w.heap.size w x → _ from fun k x hk hx => piece_any k (h.on hx) hs (ht.below hx) hn hk)
  have HS := Lib.hid (And.intro hrl (And.intro hs h))
  generalize rdS t s = rd at *
  obtain ⟨W, hW⟩ : ∃ W, W = w.alloc (.cells (plC 0 0 0 0) tPl) := ⟨_, rfl⟩
  have HW := Lib.hid (show Below w.heap.size w W ∧ PlB W w.heap.size 0 0 0 0 from by rw [hW]; exact ⟨(Below.refl _ _).alloc (Nat.le_refl _) _, heap_alloc_new w _⟩)
  have HF := Lib.hid (show ∀ x, Below W.heap.size W x → _ from fun x hx => ((h.on HW.out.1).on hx).cells)
  obtain ⟨c0, c1, c2, c3, c4, c5, c6⟩ := HF.out W (Below.refl _ _)
  have htl : s.tail ≤ 140737488355328 := hs.tail
  clear h ht hn hrl
  go_enter Try.func77, Try.ntmps77
  go_upto_region 1 with fail
  change Code.wp _ _ _ _ (w.alloc (.cells (plC 0 0 0 0) tPl))
  rw [← hW]
  clear hW
  go_wp2_with fail
  refine (HP.out s.tail W (by omega) HW.out.1).mono ?_
  rintro e x ⟨v, rfl, hT, hb⟩
  obtain ⟨pe, pn, pp, po, vv, own, rfl, hv, hw, hr⟩ := hT
  obtain ⟨ao, cap, rfl, -⟩ := hv.now
  obtain ⟨Y, hY⟩ : ∃ Y, Y = x.alloc (.cells (pcC pe pn pp po (.slice ao own.length cap)) tPc) := ⟨_, rfl⟩
  have HY := Lib.hid (show Below W.heap.size W Y ∧ PcB Y x.heap.size pe pn pp po (.slice ao own.length cap) from by rw [hY]; exact ⟨hb.alloc hb.size _, heap_alloc_new x _⟩)
  have HR := Lib.hid (And.intro hw hr)
  have HbX := Lib.hid hb.size
  clear hv hw hr hb c0 c1 c2 c3 c4 c5 c6
  unfold pcC
  go_upto_region 2 with fail
  change Code.wp _ _ _ _ (x.alloc (.cells (pcC pe pn pp po (.slice ao own.length cap)) tPc))
  rw [← hY]
  clear hY
  have HPn := Lib.hid (show w.heap.size ≠ x.heap.size from by have := HW.out.2.lt; have := HbX.out; omega)
  generalize x.heap.size = P at *
  obtain ⟨c0, c1, c2, c3, c4⟩ := HY.out.2.cells
  obtain ⟨s0, s1, s2, s3, s4, s5, s6⟩ := HF.out Y HY.out.1
  obtain ⟨cd, hcd⟩ : ∃ cd : Bool, cd = decide (Whole (rd s.tail) ∧ 0 < po ∧ least ≤ pe ∧ pe < s.epoch) := ⟨_, rfl⟩
  have HCd := Lib.hid hcd
  clear hcd
  go_cut [48] (fun v wx => v = .bool (!cd) ∧ Hid (Below Y.heap.size Y wx))
  case first =>
    by_cases h0 : Whole (rd s.tail)
    · have d0 : decide (Whole (rd s.tail)) = true := decide_eq_true h0
      by_cases h1 : 0 < po
      · have d1 : ((po : Int) == 0) = false := by simp; omega
        by_cases h2 : least ≤ pe
        · have d2 : ¬ (pe : Int) < (least : Int) := by omega
          by_cases h3 : pe < s.epoch
          · have d3 : ¬ (s.epoch : Int) ≤ (pe : Int) := by omega
            have e3 : decide (s.epoch ≤ pe) = false := decide_eq_false (by omega)
            have e2 : decide (pe < least) = false := decide_eq_false (by omega)
            obtain rfl : cd = true := by rw [HCd.out]; exact decide_eq_true ⟨h0, h1, h2, h3⟩
            clear h0 h1 h2 h3 d2 d3
            go_wp2_with fail
            go_quiet (fail)
            go_wp2_with fail
            go_meet
            case rel => exact ⟨rfl, below_drewN (Below.refl _ _) _⟩
          · have e3 : decide (s.epoch ≤ pe) = true := decide_eq_true (by omega)
            have e2 : decide (pe < least) = false := decide_eq_false (by omega)
            obtain rfl : cd = false := by rw [HCd.out]; exact decide_eq_false fun h => h3 h.2.2.2
            clear h0 h1 h2 h3 d2
            go_wp2_with fail
            go_quiet (fail)
            go_wp2_with fail
            go_meet
            case rel => exact ⟨rfl, below_drewN (Below.refl _ _) _⟩
        · have e2 : decide (pe < least) = true := decide_eq_true (by omega)
          obtain rfl : cd = false := by rw [HCd.out]; exact decide_eq_false fun h => h2 h.2.2.1
          clear h0 h1 h2
          go_wp2_with fail
          go_quiet (fail)
          go_wp2_with fail
          go_meet
          case rel => exact ⟨rfl, below_drewN (Below.refl _ _) _⟩
      · have d1 : ((po : Int) == 0) = true := by simp; omega
        obtain rfl : cd = false := by rw [HCd.out]; exact decide_eq_false fun h => h1 h.2.1
        clear h0 h1
        go_wp2_with fail
        go_quiet (fail)
        go_wp2_with fail
        go_meet
        case rel => exact ⟨rfl, below_drewN (Below.refl _ _) _⟩
    · have d0 : decide (Whole (rd s.tail)) = false := decide_eq_false h0
      obtain rfl : cd = false := by rw [HCd.out]; exact decide_eq_false fun h => h0 h.1
      clear h0
      go_wp2_with fail
      go_quiet (fail)
      go_wp2_with fail
      go_meet
      case rel => exact ⟨rfl, below_drewN (Below.refl _ _) _⟩
  case rest =>
    obtain ⟨rfl, HC⟩ := hcut
    clear c0 c1 c2 c3 c4 s0 s1 s2 s3 s4 s5 s6
    by_cases hC : Whole (rd s.tail) ∧ 0 < po ∧ least ≤ pe ∧ pe < s.epoch
    · obtain rfl : cd = true := by rw [HCd.out]; exact decide_eq_true hC
      rw [show (!true) = false from rfl]
      have hPe := HR.out.1 hC.1
      have HI := Lib.hid (And.intro hPe (And.intro hC HR.out.2))
      have hPc := HY.out.2.on HC.out
      have hpo : po ≤ 65535 := by have := ofO_lt (HS.out.1 s.tail); omega
      have HB0 := Lib.hid (show Below w.heap.size w wc from HW.out.1.trans ((HY.out.1.trans (HC.out.mono HY.out.1.size)).mono HW.out.1.size))
      have HWc := Lib.hid (show Below W.heap.size W wc from HY.out.1.trans (HC.out.mono HY.out.1.size))
      obtain ⟨c0, c1, c2, c3, c4⟩ := hPc.cells
      have HPc := Lib.hid hPc
      clear hPe hPc hC
      go_wp2_with fail
      clear c0 c1 c2 c3 c4
      go_loopw [9, 53] (fun r i x => ∃ (j : Nat) (l : List UInt8), j ≤ po ∧ i = .int .i64 (j : Int) ∧ Hid (Below wc.heap.size wc x ∧ x.ownsRow wc.heap.size Ta.tBy 1 r l.length (Lib.byteCells l)) ∧ Hid (l = bytes rd s.tail j ∧ ∀ k, k < j → Good (rd (s.tail + k)) pe (s.tail + k) k po)) (fun _ i _ => po - (intOf i).toNat)
      case atStart => exact ⟨0, [], by omega, rfl, ⟨Below.refl _ _, World.ownsRow_nil _ _ _ _⟩, ⟨rfl, fun k hk => by omega⟩⟩
      case round =>
        obtain ⟨j, l, hj, rfl, HL, HG⟩ := hrel
        by_cases hlt : j < po
        · have hwr : Below w.heap.size w wr := HB0.out.trans (HL.out.1.mono HB0.out.size)
          have hWr : Below W.heap.size W wr := HWc.out.trans (HL.out.1.mono HWc.out.size)
          obtain ⟨s0, s1, s2, s3, s4, s5, s6⟩ := HF.out wr hWr
          have hPj := HP.out (s.tail + j) wr (by omega) hwr
          rw [Int.natCast_add] at hPj
          have HPj := Lib.hid hPj
          have HBw := Lib.hid (And.intro hwr hWr)
          clear hPj hwr hWr
          go_wp2_with fail
          refine HPj.out.mono ?_
          rintro e1 x1 ⟨v1, rfl, hT, hb⟩
          obtain ⟨e1, n1, p1, o1, vv1, own1, rfl, hv, hw, hr⟩ := hT
          obtain ⟨ao1, cap1, rfl, -⟩ := hv.now
          obtain ⟨Z, hZ⟩ : ∃ Z, Z = x1.alloc (.cells (pcC e1 n1 p1 o1 (.slice ao1 own1.length cap1)) tPc) := ⟨_, rfl⟩
          have hbz : Below wr.heap.size wr Z := by rw [hZ]; exact hb.alloc hb.size _
          have hal : Below x1.heap.size x1 Z := by rw [hZ]; exact (Below.refl _ _).alloc (Nat.le_refl _) _
          have HZ := Lib.hid (show Below wr.heap.size wr Z ∧ PcB Z x1.heap.size e1 n1 p1 o1 (.slice ao1 own1.length cap1) ∧ IsBytes Z (.slice ao1 own1.length cap1) own1 ∧ wr.heap.size ≤ x1.heap.size from ⟨hbz, by rw [hZ]; exact heap_alloc_new x1 _, Ta.IsBytes.below hv.now hal, hb.size⟩)
          have HR1 := Lib.hid (And.intro hw hr)
          clear hv hw hr hb hbz hal s0 s1 s2 s3 s4 s5 s6 HPj
          unfold pcC
          go_upto_region 9 with fail
          change Code.wp _ _ _ _ (x1.alloc (.cells (pcC e1 n1 p1 o1 (.slice ao1 own1.length cap1)) tPc))
          rw [← hZ]
          clear hZ
          generalize x1.heap.size = P1 at *
          have hw2 : IntKind.i64.wrap ((s.tail : Int) + (j : Int)) = (s.tail : Int) + (j : Int) := by rw [IntKind.wrap_i64] <;> omega
          have HF2 := Lib.hid (show ∀ x, Below Z.heap.size Z x → (x.cell? ⟨P, 0, none⟩ = some (.int .i64 (pe : Int)) ∧ x.cell? ⟨P, 3, none⟩ = some (.int .i64 (po : Int))) ∧ x.cell? ⟨q, 4, none⟩ = some (.int .i64 (s.tail : Int)) from fun x hx => by
            have h1 := ((HPc.out.on HL.out.1).on HZ.out.1).on hx
            obtain ⟨-, -, -, -, k4, -⟩ := HF.out x (HBw.out.2.trans ((HZ.out.1.trans (hx.mono HZ.out.1.size)).mono HBw.out.2.size))
            exact ⟨⟨h1.cells.1, h1.cells.2.2.2.1⟩, k4⟩)
          refine Order.beginE (fun x => Below Z.heap.size Z x) [15] (by kernel_rfl) ?_
          refine Order.readsE_any (idx := [0, 1, 2, 3, 4, 5, 6, 7, 8, 9, 10, 11, 12, 13]) (by kernel_rfl) (Below.refl _ _).drew (fun _ _ _ _ _ h => Order.noPanic_put h) 2 _ _ (by decide +kernel) ?_
          simp only [Order.pick, List.getElem?_toArray, List.getElem?_cons_zero, List.getElem?_cons_succ]
          repeat (first
            | (refine Order.reads_off (by rfl) ?_
               simp only [Act.put, List.setIfInBounds_toArray, List.set_cons_zero, List.set_cons_succ])
            | (apply Order.reads_on
               · rfl
               · intro x hx
                 first
                   | (obtain ⟨⟨k0, k3⟩, k4⟩ := HF2.out x hx
                      exact Order.load_at rfl rfl (by assumption))
                   | (go_simp; rfl)
                   | (obtain ⟨⟨k0, k3⟩, k4⟩ := HF2.out x hx
                      go_simp; rfl)
               simp only [Act.put, List.setIfInBounds_toArray, List.set_cons_zero, List.set_cons_succ]))
          refine Order.reads_end ?_
          apply Order.actE (i := 14)
          · rfl
          · decide +kernel
          · rfl
          simp only [List.getElem_toArray, List.getElem_cons_succ, List.getElem_cons_zero]
          unfold Oper.wp
          go_simp
          have hb0 : Below Z.heap.size Z (Z.drew.alloc (.cells #[.int .i64 0, .int .i64 0, .int .i64 0, .int .i64 0] tPl)) := (Below.refl _ _).drew.alloc (Nat.le_refl _) _
          refine ⟨hb0, ?_⟩
          apply Order.lastE (i := 15)
          · rfl
          · decide +kernel
          · decide
          · rfl
          unfold Oper.wp
          go_simp
          refine Order.doneE (by decide +kernel) ?_ _
          refine NoPanic.normal ?_
          obtain ⟨V, hV⟩ : ∃ V, V = (Z.alloc (.cells #[.int .i64 (pe : Int), .int .i64 ((s.tail : Int) + (j : Int)), .int .i64 (j : Int), .int .i64 (po : Int)] tPl)).drew := ⟨_, rfl⟩
          have hzv : Below Z.heap.size Z V := by rw [hV]; exact ((Below.refl _ _).alloc (Nat.le_refl _) _).drew
          have hpl : PlB V Z.heap.size pe (s.tail + j) j po := by rw [hV, PlB, Int.natCast_add]; exact heap_alloc_new Z _
          change Exit.then _ _ _ _ (Z.alloc (.cells #[.int .i64 (pe : Int), .int .i64 ((s.tail : Int) + (j : Int)), .int .i64 (j : Int), .int .i64 (po : Int)] tPl)).drew
          rw [← hV]
          have hwv : Below wr.heap.size wr V := HZ.out.1.trans (hzv.mono HZ.out.1.size)
          have HV := Lib.hid (show Below wc.heap.size wc V ∧ PcB V P1 e1 n1 p1 o1 (.slice ao1 own1.length cap1) ∧ PlB V Z.heap.size pe (s.tail + j) j po ∧ IsBytes V (.slice ao1 own1.length cap1) own1 ∧ V.ownsRow wc.heap.size Ta.tBy 1 u9 l.length (Lib.byteCells l) ∧ Below Z.heap.size Z V from
            ⟨HL.out.1.trans (hwv.mono HL.out.1.size), HZ.out.2.1.on hzv, hpl, Ta.IsBytes.below HZ.out.2.2.1 hzv, own_below HL.out.2 hwv, hzv⟩)
          clear hV hzv hpl hwv hb0 HF2 hw2
          generalize Z.heap.size = P2 at *
          obtain ⟨T, hT⟩ : ∃ T, T = s.tail + j := ⟨_, rfl⟩
          rw [← hT] at HV
          obtain ⟨okb, hok⟩ : ∃ b : Bool, b = decide (Whole (rd (s.tail + j))) := ⟨_, rfl⟩
          rw [← hok]
          have HT := Lib.hid (And.intro hT hok)
          clear hT hok
          obtain ⟨wh, hwh⟩ : ∃ b : Bool, b = decide (own1.length = 108 ∨ j + 1 = po) := ⟨_, rfl⟩
          have HWh := Lib.hid hwh
          clear hwh
          obtain ⟨c0, c1, c2, c3, c4⟩ := HV.out.2.1.cells
          obtain ⟨i0, i1, i2, i3⟩ := HV.out.2.2.1.cells
          obtain ⟨k0, k1, k2, k3, k4⟩ := (HPc.out.on HV.out.1).cells
          go_upto_region 10 with fail
          go_cut [14] (fun v wx => v = .bool wh ∧ V = wx)
          case first =>
            have hw3 : IntKind.i64.wrap ((po : Int) - 1) = (po : Int) - 1 := by rw [IntKind.wrap_i64] <;> omega
            by_cases g1 : own1.length = 108
            · have d1 : ((own1.length : Int) == 108) = true := by simp [g1]
              obtain rfl : wh = true := by rw [HWh.out]; exact decide_eq_true (.inl g1)
              clear g1
              go_wp2_with fail
              go_meet
              case rel => exact ⟨rfl, rfl⟩
            · have d1 : ((own1.length : Int) == 108) = false := by simp; omega
              by_cases g2 : j + 1 = po
              · have d2 : ((j : Int) == (po : Int) - 1) = true := by rw [beq_iff_eq]; omega
                obtain rfl : wh = true := by rw [HWh.out]; exact decide_eq_true (.inr g2)
                clear g1 g2
                go_wp2_with fail
                go_meet
                case rel => exact ⟨rfl, rfl⟩
              · have d2 : ((j : Int) == (po : Int) - 1) = false := by rw [beq_eq_false_iff_ne]; omega
                obtain rfl : wh = false := by rw [HWh.out]; exact decide_eq_false (by omega)
                clear g1 g2
                go_wp2_with fail
                go_meet
                case rel => exact ⟨rfl, rfl⟩
          case rest =>
            obtain ⟨rfl, rfl⟩ := hcut
            obtain ⟨gd, hgd⟩ : ∃ b : Bool, b = (okb && (decide (e1 = pe ∧ n1 = T ∧ p1 = j ∧ o1 = po) && wh)) := ⟨_, rfl⟩
            have HGd := Lib.hid hgd
            clear hgd
            go_upto_region 11 with fail
            go_cut [104] (fun v wx => v = .bool (!gd) ∧ V = wx)
            case first =>
              have hne := neq_pl e1 n1 p1 o1 pe T j po
              unfold plC at hne
              cases okb with
              | false =>
                obtain rfl : gd = false := by rw [HGd.out]; rfl
                clear hne
                go_wp2_with fail
                go_meet
                case rel => exact ⟨rfl, rfl⟩
              | true =>
                by_cases g3 : e1 = pe ∧ n1 = T ∧ p1 = j ∧ o1 = po
                · rw [decide_eq_false (fun h => h g3)] at hne
                  rw [decide_eq_true g3] at HGd
                  cases wh with
                  | true =>
                    obtain rfl : gd = true := by rw [HGd.out]; rfl
                    clear g3
                    go_wp2_with fail
                    go_meet
                    case rel => exact ⟨rfl, rfl⟩
                  | false =>
                    obtain rfl : gd = false := by rw [HGd.out]; rfl
                    clear g3
                    go_wp2_with fail
                    go_meet
                    case rel => exact ⟨rfl, rfl⟩
                · rw [decide_eq_true g3] at hne
                  rw [decide_eq_false g3] at HGd
                  obtain rfl : gd = false := by rw [HGd.out]; rfl
                  clear g3
                  go_wp2_with fail
                  go_meet
                  case rel => exact ⟨rfl, rfl⟩
            case rest =>
              obtain ⟨rfl, rfl⟩ := hcut
              clear k0 k1 k2 k3 k4 i0 i1 i2 i3
              have HGo := Lib.hid (show gd = true ↔ Good (rd (s.tail + j)) pe (s.tail + j) j po from by
                have hpe : pe < 4294967296 := by have := epO_lt (HS.out.1 s.tail); have := HI.out.1.1; omega
                rw [HGd.out, HT.out.2, HWh.out, Bool.and_eq_true, Bool.and_eq_true, decide_eq_true_iff, decide_eq_true_iff, decide_eq_true_iff]
                constructor
                · rintro ⟨h1, ⟨h2, h3, h4, h5⟩, h6⟩
                  obtain ⟨r1, r2, r3, r4, r5⟩ := HR1.out.1 h1
                  have hl := owO_len (HS.out.1 (s.tail + j)) h1.1
                  have := HT.out.1
                  exact good_of h1 (by omega) (by omega) (by omega) (by omega) fun h => by rw [r5] at h6; omega
                · intro h
                  obtain ⟨h1, h2, h3, h4, h5⟩ := h.whole hpe (by omega) (by omega) (by omega)
                  obtain ⟨r1, r2, r3, r4, r5⟩ := HR1.out.1 h1
                  have hl := owO_len (HS.out.1 (s.tail + j)) h1.1
                  have := HT.out.1
                  have h6 := h.2.1
                  refine ⟨h1, ⟨by omega, by omega, by omega, by omega⟩, ?_⟩
                  rw [r5]
                  by_cases h7 : j + 1 < po
                  · exact .inl (by rw [hl]; exact h6 h7)
                  · exact .inr (by omega))
              have HBv := Lib.hid (show Below w.heap.size w V from HB0.out.trans (HV.out.1.mono HB0.out.size))
              cases gd with
              | false =>
                have HNo := Lib.hid (show rec rd s.tail least s.epoch = none from rec_none fun ⟨_, _, _, h4, _⟩ => by
                  have h5 := h4 j (by have := HI.out.1.2.2.2.1; omega)
                  rw [← HI.out.1.1, ← HI.out.1.2.2.2.1] at h5
                  have := HGo.out.2 h5
                  cases this)
                have hA := (HW.out.2.on HWc.out).on HV.out.1
                have hB := HBv.out
                clear c0 c1 c2 c3 c4 HGo HGd HWh HT
                obtain ⟨a0, a1, a2, a3⟩ := hA.cells
                obtain ⟨f0, f1, f2, f3⟩ := hA.free
                have HT5 := Lib.hid (And.intro (st4_turns V w.heap.size (.int .i64 ((0 : Nat) : Int)) (.int .i64 ((0 : Nat) : Int)) (.int .i64 ((0 : Nat) : Int)) (.int .i64 ((0 : Nat) : Int))) (And.intro (hA.put 0 0 0 0) hB))
                clear hA hB
                go_wp2_with fail
                change bodyPost _ _ _ _ _ (st4 V w.heap.size (.int .i64 ((0 : Nat) : Int)) (.int .i64 ((0 : Nat) : Int)) (.int .i64 ((0 : Nat) : Int)) (.int .i64 ((0 : Nat) : Int)))
                generalize st4 V w.heap.size (.int .i64 ((0 : Nat) : Int)) (.int .i64 ((0 : Nat) : Int)) (.int .i64 ((0 : Nat) : Int)) (.int .i64 ((0 : Nat) : Int)) = Fin at *
                clear a0 a1 a2 a3 f0 f1 f2 f3
                obtain ⟨g0, g1, g2, g3⟩ := HT5.out.2.1.cells
                refine bodyPost_ret (v := .tuple #[.slice none 0 0, .agg (plC 0 0 0 0), .bool false]) (by simp [results, Try.results77, go_sem, g0, g1, g2, g3, plC]) rfl ⟨0, 0, 0, 0, .slice none 0 0, by rw [HNo.out]; rfl, HT5.out.2.2.trans (HT5.out.1.below (B := w.heap.size) HT5.out.2.2.size fun k e => by omega), ⟨none, 0, 0, rfl⟩, by omega, by omega, fun b e' o' h => by rw [HNo.out] at h; cases h⟩
              | true =>
                obtain ⟨ra, rc, rfl⟩ := own_slice HV.out.2.2.2.2.1
                have HNx := Lib.hid (show own1 = owO (rd (s.tail + j)) ∧ Good (rd (s.tail + j)) pe (s.tail + j) j po from by
                  have hg := HGo.out.1 rfl
                  have hpe : pe < 4294967296 := by have := epO_lt (HS.out.1 s.tail); have := HI.out.1.1; omega
                  exact ⟨(HR1.out.1 (hg.whole hpe (by omega) (by omega) (by omega)).1).2.2.2.2, hg⟩)
                have hll : l.length ≤ 108 * j := by
                  rw [HG.out.1]
                  exact bytes_len HS.out.1 j fun i hi => (HG.out.2 i hi).1
                have hl1 : own1.length ≤ 108 := HR1.out.2.2.2.2.2
                have HLl := Lib.hid (show l.length + own1.length ≤ 100000000 by omega)
                clear hll hl1 HGo HGd HWh HT
                go_wp2_with (at_builtin; refine walk_bytes rfl _ _ rfl rfl rfl HV.out.2.2.2.2.1 HV.out.1.size HV.out.2.2.2.1 HLl.out ?_)
                intro r' y o5 g5
                have HO := Lib.hid (show Below wc.heap.size wc y ∧ y.ownsRow wc.heap.size Ta.tBy 1 r' (l ++ own1).length (Lib.byteCells (l ++ own1)) from ⟨HV.out.1.grown g5 HV.out.1.size fun k hk => (HV.out.2.2.2.2.1.lt k hk).1, by rw [List.length_append]; exact o5⟩)
                clear o5 g5 c0 c1 c2 c3 c4
                go_wp2_with fail
                go_roundw
                case rel =>
                  refine ⟨j + 1, l ++ own1, by omega, by go_num, HO.out, ?_, fun k hk => ?_⟩
                  · rw [bytes_succ, ← HG.out.1, HNx.out.1]
                  · by_cases hkj : k = j
                    · rw [hkj]; exact HNx.out.2
                    · exact HG.out.2 k (by omega)
                case measure => simp [intOf]; omega
        · obtain rfl : j = po := by omega
          obtain ⟨ra, rc, rfl⟩ := own_slice HL.out.2
          have HBr := Lib.hid (show Below w.heap.size w wr ∧ PlB wr w.heap.size 0 0 0 0 ∧ PcB wr P pe pn pp j (.slice ao own.length cap) from ⟨HB0.out.trans (HL.out.1.mono HB0.out.size), (HW.out.2.on HWc.out).on HL.out.1, HPc.out.on HL.out.1⟩)
          by_cases h6 : 60000 < l.length
          · have e6 : (60000 : Int) < (l.length : Int) := by omega
            have HNo := Lib.hid (show rec rd s.tail least s.epoch = none from rec_none fun ⟨_, _, _, _, h5⟩ => by
              rw [← HI.out.1.2.2.2.1, ← HG.out.1] at h5
              omega)
            have hA := HBr.out.2.1
            have hB := HBr.out.1
            clear h6
            obtain ⟨a0, a1, a2, a3⟩ := hA.cells
            obtain ⟨f0, f1, f2, f3⟩ := hA.free
            have HT5 := Lib.hid (And.intro (st4_turns wr w.heap.size (.int .i64 ((0 : Nat) : Int)) (.int .i64 ((0 : Nat) : Int)) (.int .i64 ((0 : Nat) : Int)) (.int .i64 ((0 : Nat) : Int))) (And.intro (hA.put 0 0 0 0) hB))
            clear hA hB
            go_wp2_with fail
            change bodyPost _ _ _ _ _ (st4 wr w.heap.size (.int .i64 ((0 : Nat) : Int)) (.int .i64 ((0 : Nat) : Int)) (.int .i64 ((0 : Nat) : Int)) (.int .i64 ((0 : Nat) : Int)))
            generalize st4 wr w.heap.size (.int .i64 ((0 : Nat) : Int)) (.int .i64 ((0 : Nat) : Int)) (.int .i64 ((0 : Nat) : Int)) (.int .i64 ((0 : Nat) : Int)) = Fin at *
            clear a0 a1 a2 a3 f0 f1 f2 f3
            obtain ⟨g0, g1, g2, g3⟩ := HT5.out.2.1.cells
            refine bodyPost_ret (v := .tuple #[.slice none 0 0, .agg (plC 0 0 0 0), .bool false]) (by simp [results, Try.results77, go_sem, g0, g1, g2, g3, plC]) rfl ⟨0, 0, 0, 0, .slice none 0 0, by rw [HNo.out]; rfl, HT5.out.2.2.trans (HT5.out.1.below (B := w.heap.size) HT5.out.2.2.size fun k e => by omega), ⟨none, 0, 0, rfl⟩, by omega, by omega, fun b e' o' h => by rw [HNo.out] at h; cases h⟩
          · have e6 : ¬ (60000 : Int) < (l.length : Int) := by omega
            have HSo := Lib.hid (show rec rd s.tail least s.epoch = some (l, pe, j) from by
              obtain ⟨⟨i1, i2, i3, i4, i5⟩, ⟨k1, k2, k3, k4⟩, -⟩ := HI.out
              rw [rec_some ⟨by omega, by omega, by omega, by rw [← i1, ← i4]; exact HG.out.2, by rw [← i4, ← HG.out.1]; omega⟩, ← i1, ← i4, ← HG.out.1])
            clear h6
            go_upto_region 17 with fail
            have HF3 := Lib.hid (show ∀ x, Turns (fun k => k = w.heap.size) wr x → _ from fun x hx => (Ta.C5.cells (T := tPc) (HBr.out.2.2.turn hx (by
              have h1 := HW.out.2.lt
              have h2 := HPn.out
              omega))))
            refine Order.region_begin (S := Turns (fun k => k = w.heap.size) wr.drew) (by kernel_rfl) ?_
            refine Order.reads_any (idx := [0, 1, 2, 3]) (by kernel_rfl) (Turns.refl _ _) (fun _ _ _ _ _ h => Order.noPanic_put h) 2 _ _ (by decide +kernel) ?_
            simp only [Order.pick, List.getElem?_toArray, List.getElem?_cons_zero, List.getElem?_cons_succ]
            repeat (first
              | (refine Order.reads_off (by rfl) ?_
                 simp only [Act.put, List.setIfInBounds_toArray, List.set_cons_zero, List.set_cons_succ])
              | (apply Order.reads_on
                 · rfl
                 · intro x hx
                   first
                     | (go_simp; rfl)
                     | (obtain ⟨k0, k1, k2, k3, k4⟩ := HF3.out x (Turns.after_below (Below.refl _ _).drew hx)
                        go_simp; rfl)
                 simp only [Act.put, List.setIfInBounds_toArray, List.set_cons_zero, List.set_cons_succ]))
            refine Order.reads_end ?_
            have hbd : Below wr.heap.size wr wr.drew := (Below.refl _ _).drew
            generalize wr.drew = D at *
            have hA := HBr.out.2.1.on hbd
            obtain ⟨a0, a1, a2, a3⟩ := hA.cells
            obtain ⟨f0, f1, f2, f3⟩ := hA.free
            have HT5 := Lib.hid (And.intro (st4_turns D w.heap.size (.int .i64 (pe : Int)) (.int .i64 (pn : Int)) (.int .i64 (pp : Int)) (.int .i64 (j : Int))) (And.intro (hA.put pe pn pp j) hbd))
            clear hA hbd HF3
            apply Order.acts_any (R := (Turns (fun k => k = w.heap.size))) (fun h k => h.trans k fun _ _ h => h) (i := 4)
            · rfl
            · decide +kernel
            · rfl
            unfold Oper.wp
            go_simp
            obtain ⟨Fin, hFin⟩ : ∃ F, F = st4 D w.heap.size (.int .i64 (pe : Int)) (.int .i64 (pn : Int)) (.int .i64 (pp : Int)) (.int .i64 (j : Int)) := ⟨_, rfl⟩
            rw [← hFin] at HT5
            unfold st4 at hFin
            rw [← hFin]
            refine ⟨HT5.out.1, ?_⟩
            clear a0 a1 a2 a3 f0 f1 f2 f3 hFin
            refine Order.reads_any (idx := [5]) (by kernel_rfl) (Turns.refl _ _) (fun _ _ _ _ _ h => Order.noPanic_put h) 0 _ _ (by decide +kernel) ?_
            simp only [Order.pick, List.getElem?_toArray, List.getElem?_cons_zero, List.getElem?_cons_succ]
            repeat (first
              | (refine Order.reads_off (by rfl) ?_
                 simp only [Act.put, List.setIfInBounds_toArray, List.set_cons_zero, List.set_cons_succ])
              | (apply Order.reads_on
                 · rfl
                 · intro x hx
                   first
                     | (go_simp; rfl)
                     | (fail
                        go_simp; rfl)
                 simp only [Act.put, List.setIfInBounds_toArray, List.set_cons_zero, List.set_cons_succ]))
            refine Order.reads_end ?_
            refine wpAnyH_done (by decide +kernel) ?_ _
            refine NoPanic.normal ?_
            have hwf : Turns (fun k => k = w.heap.size) wr Fin := Turns.after_below HT5.out.2.2 HT5.out.1
            have hrow := own_turn HL.out.2 hwf fun k hk e => by
              have h1 := (HL.out.2.lt k hk).1
              have h2 := HW.out.2.lt
              have h3 := HWc.out.size
              omega
            have hbf : Below w.heap.size w Fin := HBr.out.1.trans (hwf.below (B := w.heap.size) HBr.out.1.size fun k e => by omega)
            have hst := Ta.own_bytes hrow (F := fun k => k < w.heap.size) fun k hk => by have := HB0.out.size; omega
            obtain ⟨g0, g1, g2, g3⟩ := HT5.out.2.1.cells
            have HE := Lib.hid (show Below w.heap.size w Fin ∧ Stay (fun k => k < w.heap.size) Fin (fun y => IsBytes y (.slice ra l.length rc) l) ∧ pe < 281474976710656 ∧ j < 281474976710656 from ⟨hbf, hst, HI.out.2.2.1, by omega⟩)
            clear hwf hrow hbf hst HT5
            go_wp2_with fail
            refine bodyPost_ret (v := .tuple #[.slice ra l.length rc, .agg (plC pe pn pp j), .bool true]) (by simp [results, Try.results77, go_sem, g0, g1, g2, g3, plC]) rfl ⟨pe, pn, pp, j, _, by rw [HSo.out]; rfl, HE.out.1, ⟨_, _, _, rfl⟩, HE.out.2.2.1, HE.out.2.2.2, fun b e' o' h => ?_⟩
            rw [HSo.out] at h
            injection h with h
            injection h with h1 h2
            injection h2 with h2 h3
            subst h1 h2 h3
            exact ⟨rfl, rfl, HE.out.2.1⟩
    · obtain rfl : cd = false := by rw [HCd.out]; exact decide_eq_false hC
      have HNo := Lib.hid (show rec rd s.tail least s.epoch = none from rec_none fun ⟨h1, h2, h3, h4, _⟩ => by
        have hw := all_whole (HS.out.1 _) (by omega) h1 h4
        obtain ⟨r1, -, -, r4, -⟩ := HR.out.1 hw
        exact hC ⟨hw, by omega, by omega, by omega⟩)
      have hA := (HW.out.2.on HY.out.1).on HC.out
      have hB := HW.out.1.trans ((HY.out.1.trans (HC.out.mono HY.out.1.size)).mono HW.out.1.size)
      clear hC
      obtain ⟨a0, a1, a2, a3⟩ := hA.cells
      obtain ⟨f0, f1, f2, f3⟩ := hA.free
      have HT5 := Lib.hid (And.intro (st4_turns wc w.heap.size (.int .i64 ((0 : Nat) : Int)) (.int .i64 ((0 : Nat) : Int)) (.int .i64 ((0 : Nat) : Int)) (.int .i64 ((0 : Nat) : Int))) (And.intro (hA.put 0 0 0 0) hB))
      clear hA hB
      go_wp2_with fail
      change bodyPost _ _ _ _ _ (st4 wc w.heap.size (.int .i64 ((0 : Nat) : Int)) (.int .i64 ((0 : Nat) : Int)) (.int .i64 ((0 : Nat) : Int)) (.int .i64 ((0 : Nat) : Int)))
      generalize st4 wc w.heap.size (.int .i64 ((0 : Nat) : Int)) (.int .i64 ((0 : Nat) : Int)) (.int .i64 ((0 : Nat) : Int)) (.int .i64 ((0 : Nat) : Int)) = Fin at *
      clear a0 a1 a2 a3 f0 f1 f2 f3
      obtain ⟨g0, g1, g2, g3⟩ := HT5.out.2.1.cells
      refine bodyPost_ret (v := .tuple #[.slice none 0 0, .agg (plC 0 0 0 0), .bool false]) (by simp [results, Try.results77, go_sem, g0, g1, g2, g3, plC]) rfl ⟨0, 0, 0, 0, .slice none 0 0, by rw [HNo.out]; rfl, HT5.out.2.2.trans (HT5.out.1.below (B := w.heap.size) HT5.out.2.2.size fun k e => by omega), ⟨none, 0, 0, rfl⟩, by omega, by omega, fun b e' o' h => by rw [HNo.out] at h; cases h⟩
end
end Sp
end Go.Proofs.Ytkfmmdiflbnhgaa
