/-
  Layer 15: the document's list of entries: rows, and what is told of them.
-/
import Derived.Test.YtldacdpejncbnaaHgFirst
import Derived.Test.YtldacdpejncbnaaHgCmp
namespace Go.Proofs.Ytldacdpejncbnaa
open Go.RowKit
namespace Hg
open Knot (Turns NewRow)
open Tr (IsElem own_turn own_below own_slice own_open)

abbrev tDe : TypeId := 59
abbrev tDs : TypeId := 26
theorem elD : ∃ i z b, IsElem Try.prog tDs tDe i z 2 b ∧ b ≤ 100 := by
  refine ⟨_, _, _, ⟨by kernel_rfl, rfl, rfl, by kernel_rfl, rfl, by kernel_rfl, by omega⟩, ?_⟩
  exact of_decide_eq_true (by kernel_rfl)
theorem own_base {w : World} {B C n c : Nat} {e : TypeId} {v : Value} {xs : List Value} (h : w.ownsRow B e c v n xs) (hC : C ≤ B) : w.ownsRow C e c v n xs := by
  refine ⟨h.1, ?_⟩
  rcases h.2 with h0 | ⟨g, cap, cur, rfl, hb, r⟩
  · exact .inl h0
  · exact .inr ⟨g, cap, cur, rfl, by omega, r⟩
theorem elemD : Try.prog.underlying tDs = some (.slice (Try.prog.elem tDs)) := by kernel_rfl
theorem sizeD : ∀ w, (sizeOf (Try.prog.elem tDs)).run Try.prog w = .ok 2 w := fun w => by kernel_rfl
theorem elemE : Try.prog.underlying tEs = some (.slice (Try.prog.elem tEs)) := by kernel_rfl
theorem sizeE : ∀ w, (sizeOf (Try.prog.elem tEs)).run Try.prog w = .ok 2 w := fun w => by kernel_rfl
theorem idxD {g n cap i : Nat} (hi : i < n) : ∀ W, (Instr.indexAt tDs (.slice (some ⟨g, 0, none⟩) n cap) (.int .i64 (i : Int))).run Try.prog W = .ok (.pointer (some ⟨g, i * 2, none⟩)) W := fun W => by
  rw [run_indexAt_slice W _ _ _ _ _ _ elemD, if_pos ⟨by omega, by omega⟩, sizeD]
  have e : ((i : Int)).toNat = i := by omega
  simp only [Result.andThen_ok, e, Addr.add_lit, Nat.zero_add]
theorem idxE {g n cap i : Nat} (hi : i < n) : ∀ W, (Instr.indexAt tEs (.slice (some ⟨g, 0, none⟩) n cap) (.int .i64 (i : Int))).run Try.prog W = .ok (.pointer (some ⟨g, i * 2, none⟩)) W := fun W => by
  rw [run_indexAt_slice W _ _ _ _ _ _ elemE, if_pos ⟨by omega, by omega⟩, sizeE]
  have e : ((i : Int)).toNat = i := by omega
  simp only [Result.andThen_ok, e, Addr.add_lit, Nat.zero_add]
theorem cellsE_at {L : List Ent} {i : Nat} (hi : i < L.length) : (cellsE L)[i * 2]? = some (.string L[i].1) ∧ (cellsE L)[i * 2 + 1]? = some (.int .i64 L[i].2) := by
  induction L generalizing i with
  | nil => simp at hi
  | cons e L ih =>
    cases i with
    | zero => exact ⟨rfl, rfl⟩
    | succ i =>
      have := ih (i := i) (by simpa using hi)
      rw [show (i + 1) * 2 = i * 2 + 1 + 1 by omega, show i * 2 + 1 + 1 + 1 = (i * 2 + 1) + 1 + 1 by omega]
      exact this
/-- A list of entries in memory. -/
def Ro (T : TypeId) (w : World) (v : Value) (L : List Ent) : Prop := w.ownsRow 0 T 2 v L.length (cellsE L)
section
variable {T : TypeId} {w x : World} {v : Value} {L : List Ent} {F : Nat → Prop}
theorem Ro.on (h : Ro T w v L) (hb : Below w.heap.size w x) : Ro T x v L := own_below h hb
theorem Ro.turn (h : Ro T w v L) (ht : Turns F w x) (hF : ∀ k, v.ownBlock = some k → ¬ F k) : Ro T x v L := own_turn h ht hF
theorem Ro.slice (h : Ro T w v L) : ∃ ao cap, v = .slice ao L.length cap := own_slice h
/-- Where an entry lies. -/
theorem Ro.at {i : Nat} (h : Ro T w v L) (hi : i < L.length) : ∃ g cap, v = .slice (some ⟨g, 0, none⟩) L.length cap ∧ g < w.heap.size ∧ w.cell? ⟨g, i * 2, none⟩ = some (.string L[i].1) ∧ w.cell? ⟨g, i * 2 + 1, none⟩ = some (.int .i64 L[i].2) := by
  rcases h.2 with ⟨-, h0⟩ | ⟨g, cap, cur, rfl, hb, hg, hn, -⟩
  · omega
  · obtain ⟨e1, e2⟩ := cellsE_at hi
    have h1 := h.cells (g := g) rfl _ _ e1
    have h2 := h.cells (g := g) rfl _ _ e2
    rw [Tr.addp, Nat.zero_add] at h1 h2
    exact ⟨g, cap, rfl, lt_of hg, h1, h2⟩
/-- An entry of it, wherever it is read. -/
theorem Ro.all (h : Ro T w v L) (hL : L ≠ []) : ∃ g cap, v = .slice (some ⟨g, 0, none⟩) L.length cap ∧ ∀ i (hi : i < L.length), w.cell? ⟨g, i * 2, none⟩ = some (.string L[i].1) ∧ w.cell? ⟨g, i * 2 + 1, none⟩ = some (.int .i64 L[i].2) := by
  have hl : 0 < L.length := List.length_pos_iff.2 hL
  obtain ⟨g, cap, rfl, -⟩ := h.at hl
  refine ⟨g, cap, rfl, fun i hi => ?_⟩
  obtain ⟨g', cap', e, -, h1, h2⟩ := h.at hi
  cases e
  exact ⟨h1, h2⟩
end
theorem nil_ro (T : TypeId) (w : World) : Ro T w (.slice none 0 0) [] := World.ownsRow_nil _ _ _ _
def Short (L : List Ent) : Prop := ∀ e ∈ L, e.1.size ≤ 4000000
theorem rank_take {L : List Ent} {i : Nat} (hi : i < L.length) (k : ByteArray) : rank (L.take (i + 1)) k = rank (L.take i) k + (if cmp L[i].1 k < 0 then 1 else 0) := by
  rw [List.take_succ_eq_append_getElem hi, rank, rank, below_append, List.length_append]
  congr 1
  by_cases c : cmp L[i].1 k < 0 <;> simp [below, c]
set_option maxHeartbeats 4000000 in
set_option maxRecDepth 100000 in
theorem drank_any {w : World} {v : Value} {L : List Ent} (h : Ro tDe w v L) (k : ByteArray) (hL : Short L) (hk : k.size ≤ 4000000) (hl : L.length ≤ 100000) :
    Calls Try.prog 18 #[v, .string k] w fun e x => e = .returned (.int .i64 (rank L k : Nat)) ∧ Below w.heap.size w x := by
  obtain ⟨ao, cap, rfl⟩ := h.slice
  have HH := Lib.hid (And.intro h (And.intro hL hk))
  clear h hL hk
  go_enter Try.func18, Try.ntmps18
  go_wp2_with fail
  go_loopw [9, 5] (fun i n wr => ∃ (j : Nat), j ≤ L.length ∧ i = .int .i64 (j : Int) ∧ n = .int .i64 (rank (L.take j) k : Nat) ∧ Hid (Below w.heap.size w wr)) (fun i _ _ => L.length - (intOf i).toNat)
  case atStart => exact ⟨0, Nat.zero_le _, rfl, rfl, Lib.hid (Below.refl _ _)⟩
  case round =>
    obtain ⟨j, hj, rfl, rfl, HW⟩ := hrel
    by_cases hlt : j < L.length
    · obtain ⟨g, cp, he, -, q1, q2⟩ := (HH.out.1.on HW.out).at hlt
      obtain ⟨rfl, -, rfl⟩ := Value.slice.inj he
      have hC := Ref.compare_any L[j].1 k wr (HH.out.2.1 _ (List.getElem_mem hlt)) HH.out.2.2
      have hrk := rank_take hlt k
      have hbd : rank (L.take j) k ≤ j := by
        have h1 : rank (L.take j) k ≤ (L.take j).length := by rw [rank, below]; exact List.length_filter_le ..
        rw [List.length_take] at h1
        omega
      have hi := idxD (g := g) (n := L.length) (cap := cap) hlt
      change Calls _ _ _ _ fun e w' => e = .returned (.int .i64 (cmp L[j].1 k)) ∧ Below wr.heap.size wr w' at hC
      obtain ⟨d, hd⟩ : ∃ d, d = cmp L[j].1 k := ⟨_, rfl⟩
      rw [← hd] at hC hrk
      have HC := Lib.hid hC
      have HRk := Lib.hid hrk
      generalize L[j].1 = key at *
      clear hC hrk hd q2
      generalize rank (L.take j) k = rn at *
      by_cases c : d < 0
      · go_wp2_with fail
        refine HC.out.mono ?_
        rintro e x ⟨rfl, hb⟩
        have HB := Lib.hid (HW.out.trans (hb.mono HW.out.size))
        clear hb
        go_wp2_with fail
        go_roundw
        case rel =>
          refine ⟨j + 1, by omega, by go_num, ?_, HB⟩
          rw [HRk.out, if_pos c]
          go_num
        case measure => simp [intOf]; omega
      · go_wp2_with fail
        refine HC.out.mono ?_
        rintro e x ⟨rfl, hb⟩
        have HB := Lib.hid (HW.out.trans (hb.mono HW.out.size))
        clear hb
        go_wp2_with fail
        go_roundw
        case rel =>
          refine ⟨j + 1, by omega, by go_num, ?_, HB⟩
          rw [HRk.out, if_neg (by omega)]
          go_num
        case measure => simp [intOf]; omega
    · have hjl : j = L.length := by omega
      have HJ := Lib.hid hjl
      clear hjl
      go_wp2_with fail
      go_ret
      rw [HJ.out, List.take_length]
      exact ⟨rfl, HW.out⟩
end Hg
end Go.Proofs.Ytldacdpejncbnaa
