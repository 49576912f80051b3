/-
  Layer 13's document: its Open, where it doesn't open.
-/
import Derived.Test.YtkfmmdiflbnhgaaSpDOpen
namespace Go.Proofs.Ytkfmmdiflbnhgaa
set_option maxRecDepth 100000
open Go.RowKit
open Knot (Turns NewRow)
open Ta (IsBytes Stay sec nul tSec Tray)
namespace Sp
set_option maxHeartbeats 16000000 in
set_option maxRecDepth 100000 in
theorem dopen_bad (n : Nat) (kv cv : Value) (t : Tray (List UInt8)) (f c head epoch : Int) (w : World) (hk : ∃ a m q, kv = .slice a m q) (hc : ∃ a m q, cv = .slice a m q) (ho : ¬ Opens n f c head epoch) (hn : n ≤ 4096) :
    Calls Try.prog 21 #[Ta.trV (n : Int) kv cv t.left t.dark, .int .i64 f, .int .i64 c, .int .i64 head, .int .i64 epoch] w fun e x => e = .returned (.tuple #[.agg (dsC ⟨0, 0, 0, 0, 0, false⟩), .slice none 0 0, .int .i64 1]) ∧ Below w.heap.size w x := by
  obtain ⟨ka, km, kq, rfl⟩ := hk
  obtain ⟨ca, cm, cq, rfl⟩ := hc
  have HO := Lib.hid ho
  clear ho
  unfold Ta.trV
  go_enter Try.func21, Try.ntmps21
  go_upto_region 1 with fail
  obtain ⟨W, hW⟩ : ∃ W, W = (w.alloc (.cells #[.int .i64 (n : Int), .slice ka km kq, .slice ca cm cq, .int .i64 t.left, .bool t.dark] Ta.tTr)).alloc (.cells #[.int .i64 0, .int .i64 0, .int .i64 0, .int .i64 0, .int .i64 0, .bool false] tDS) := ⟨_, rfl⟩
  rw [← hW]
  have HW := Lib.hid (show Below w.heap.size w W ∧ Ta.C5 w.heap.size Ta.tTr (.int .i64 (n : Int)) (.slice ka km kq) (.slice ca cm cq) (.int .i64 t.left) (.bool t.dark) W ∧ DsB W (w.heap.size + 1) ⟨0, 0, 0, 0, 0, false⟩ from by
    rw [hW]
    have b1 := (Below.refl (w.alloc (.cells #[.int .i64 (n : Int), .slice ka km kq, .slice ca cm cq, .int .i64 t.left, .bool t.dark] Ta.tTr)).heap.size _).alloc (Nat.le_refl _) (.cells #[.int .i64 0, .int .i64 0, .int .i64 0, .int .i64 0, .int .i64 0, .bool false] tDS)
    have i2 := heap_alloc_new (w.alloc (.cells #[.int .i64 (n : Int), .slice ka km kq, .slice ca cm cq, .int .i64 t.left, .bool t.dark] Ta.tTr)) (.cells #[.int .i64 0, .int .i64 0, .int .i64 0, .int .i64 0, .int .i64 0, .bool false] tDS)
    rw [show (w.alloc (.cells #[.int .i64 (n : Int), .slice ka km kq, .slice ca cm cq, .int .i64 t.left, .bool t.dark] Ta.tTr)).heap.size = w.heap.size + 1 by simp] at i2
    exact ⟨((Below.refl _ _).alloc (Nat.le_refl _) _).alloc (by simp) _, (b1.block w.heap.size (by simp)).trans (heap_alloc_new w _), i2⟩)
  clear hW
  have HLe := Lib.hid (show w.heap.size ≤ w.heap.size + 1 by omega)
  generalize w.heap.size + 1 = R at *
  obtain ⟨c0, c1, c2, c3, c4⟩ := HW.out.2.1.cells
  go_cut [58] (fun v wx => v = .bool true ∧ W = wx)
  case first =>
    by_cases e1 : c < 2
    · clear HO
      go_wp2_with fail
      go_meet
      case rel => exact ⟨rfl, rfl⟩
    · by_cases e2 : 4096 < c
      · clear HO
        go_wp2_with fail
        go_meet
        case rel => exact ⟨rfl, rfl⟩
      · by_cases e3 : f < 0
        · clear HO
          go_wp2_with fail
          go_meet
          case rel => exact ⟨rfl, rfl⟩
        · by_cases e4 : (n : Int) < f
          · clear HO
            go_wp2_with fail
            go_meet
            case rel => exact ⟨rfl, rfl⟩
          · have w5 : IntKind.i64.wrap ((n : Int) - f) = (n : Int) - f := by rw [IntKind.wrap_i64] <;> omega
            by_cases e5 : (n : Int) - f < c
            · clear HO
              go_wp2_with fail
              go_meet
              case rel => exact ⟨rfl, rfl⟩
            · by_cases e6 : head < 0
              · clear HO
                go_wp2_with fail
                go_meet
                case rel => exact ⟨rfl, rfl⟩
              · by_cases e7 : 1099511627776 < head
                · clear HO
                  go_wp2_with fail
                  go_meet
                  case rel => exact ⟨rfl, rfl⟩
                · by_cases e8 : epoch < 1
                  · clear HO
                    go_wp2_with fail
                    go_meet
                    case rel => exact ⟨rfl, rfl⟩
                  · by_cases e9 : 4294967295 < epoch
                    · clear HO
                      go_wp2_with fail
                      go_meet
                      case rel => exact ⟨rfl, rfl⟩
                    · exact absurd ⟨⟨by omega, by omega, by omega, by omega⟩, by omega, by omega, by omega, by omega⟩ HO.out
  case rest =>
    obtain ⟨rfl, rfl⟩ := hcut
    clear c0 c1 c2 c3 c4
    have r0 := HW.out.2.2.free 0
    have r1 := HW.out.2.2.free 1
    have r2 := HW.out.2.2.free 2
    have r3 := HW.out.2.2.free 3
    have r4 := HW.out.2.2.free 4
    have r5 := HW.out.2.2.free 5
    obtain ⟨z0, z1, z2, z3, z4, z5⟩ := HW.out.2.2.cells
    go_wp2_with fail
    change bodyPost _ _ _ _ _ (st6 W R ⟨0, 0, 0, 0, 0, false⟩)
    have ht6 := st6_turns W R ⟨0, 0, 0, 0, 0, false⟩
    have hp6 := HW.out.2.2.put ⟨0, 0, 0, 0, 0, false⟩
    generalize st6 W R ⟨0, 0, 0, 0, 0, false⟩ = Fin at *
    clear r0 r1 r2 r3 r4 r5 z0 z1 z2 z3 z4 z5
    obtain ⟨g0, g1, g2, g3, g4, g5⟩ := hp6.cells
    have hB6 : Below w.heap.size w Fin := HW.out.1.trans (ht6.below HW.out.1.size fun k e => by have := HLe.out; omega)
    exact bodyPost_ret (v := .tuple #[.agg (dsC ⟨0, 0, 0, 0, 0, false⟩), .slice none 0 0, .int .i64 1]) (by simp [results, Try.results21, go_sem, g0, g1, g2, g3, g4, g5, dsC]) rfl ⟨rfl, hB6⟩
end Sp
end Go.Proofs.Ytkfmmdiflbnhgaa
