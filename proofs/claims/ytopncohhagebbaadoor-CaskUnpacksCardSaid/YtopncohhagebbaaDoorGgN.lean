/-
  strings.IndexRune at the ten reserved signs and a rune that isn't ASCII: it isn't among them.
  Package glyph in this program: plain, and Id.
  Package glyph in this program: letter, digit, Name.
  The document's answers for layer 1 (stileref01) in this program: Rune.
  The document's Runes in this program: a list of its own of a text's runes, or that it isn't UTF-8.
  The document's Plain.
  The document's Id.
-/
import Derived.Test.YtopncohhagebbaaDoorMgMem
import Derived.Test.YtopncohhagebbaaDoorMgPure
import Derived.Test.YtopncohhagebbaaDoorMgPureB
import Derived.Handy
namespace Go.Proofs.YtopncohhagebbaaDoor
open Go.RowKit
namespace Gl

/-- The ten signs. -/
def res : ByteArray := ⟨#[35, 64, 58, 42, 44, 40, 41, 34, 92, 59]⟩

theorem encode_last (r : Nat) (h0 : 128 ≤ r) (h1 : r ≤ 1114111) (h2 : r < 55296 ∨ 57344 ≤ r) : ∃ rs m, Utf8.encode (r : Int) = rs ∧ (m = 1 ∨ m = 2 ∨ m = 3) ∧ rs.size = m + 1 ∧ ∃ b : UInt8, rs.data[m]? = some b ∧ 128 ≤ b.toNat := by
  have hv : Utf8.valid (r : Int) = true := by simp [Utf8.valid]; omega
  have e : ((r : Int)).toNat = r := by omega
  unfold Utf8.encode
  simp only [hv, if_true, e]
  by_cases c1 : r < 2048
  · rw [if_neg (by omega), if_pos c1]
    refine ⟨_, 1, rfl, by simp, rfl, UInt8.ofNat (128 + r % 64), rfl, ?_⟩
    rw [UInt8.toNat_ofNat']; omega
  · by_cases c2 : r < 65536
    · rw [if_neg (by omega), if_neg c1, if_pos c2]
      refine ⟨_, 2, rfl, by simp, rfl, UInt8.ofNat (128 + r % 64), rfl, ?_⟩
      rw [UInt8.toNat_ofNat']; omega
    · rw [if_neg (by omega), if_neg c1, if_neg c2]
      refine ⟨_, 3, rfl, by simp, rfl, UInt8.ofNat (128 + r % 64), rfl, ?_⟩
      rw [UInt8.toNat_ofNat']; omega

theorem indexByte_none : ∀ (l : List UInt8) (c : UInt8), (∀ b ∈ l, b ≠ c) → Lib.indexByte l c = -1
  | [], _, _ => rfl
  | a :: l, c, h => by
    have h1 : (a == c) = false := by simpa using h a (by simp)
    have h2 := indexByte_none l c (fun b hb => h b (by simp [hb]))
    simp [Lib.indexByte, h1, h2]

theorem tail_none (m : Nat) (b : UInt8) (hb : 128 ≤ b.toNat) : Lib.indexByte (res.data.toList.drop m) b = -1 := by
  refine indexByte_none _ _ fun x hx e => ?_
  have hx' := List.mem_of_mem_drop hx
  have : ∀ y ∈ res.data.toList, y.toNat < 128 := by decide
  have := this x hx'
  rw [e] at this; omega

/-- A quiet callee behind a region that has drawn already. -/
theorem quiet_add_same {P : Program} {f : FuncId} {args : Array Value} {w : World} {a n : Nat} {v : Value}
    (h : Calls P f args (w.drewN (a + n)) fun e w' => e = .returned v ∧ w' = w.drewN (a + n)) :
    Calls P f args (w.drewN (a + n)) fun e w'' => e = .returned v ∧ ∃ m, w'' = w.drewN (a + m) :=
  h.mono fun _ _ ⟨he, hm⟩ => ⟨he, n, hm⟩

end Gl
end Go.Proofs.YtopncohhagebbaaDoor

namespace Go.Proofs.YtopncohhagebbaaDoor
open Go.RowKit
namespace Gl

theorem res_decode : ∀ p, p < 10 → (Utf8.decode res p).1 < 128 ∧ (Utf8.decode res p).2 = 1 := by decide +kernel
theorem res_size : res.size = 10 := rfl

theorem plain_ascii : ∀ r, r < 127 → 33 ≤ r → (decide (0 ≤ Lib.indexByte res.data.toList r.toUInt8)) = !Gly.plainB r := by decide +kernel

end Gl
end Go.Proofs.YtopncohhagebbaaDoor

namespace Go.Proofs.YtopncohhagebbaaDoor
open Go.RowKit
namespace Gl

theorem letter_any (r : Nat) (hr : r ≤ 1114111) (w : World) :
    Calls Tryd.prog 68 #[.int .i32 r] w fun e w' => e = .returned (.bool (Gly.letterB r)) ∧ w = w' := by
  by_cases h1 : 97 ≤ r
  · by_cases h2 : r ≤ 122
    all_goals
      go_enter Tryd.func68, Tryd.ntmps68
      go_wp2
      go_ret
      exact ⟨by simp [Gly.letterB, h1, h2]; try omega, rfl⟩
  · go_enter Tryd.func68, Tryd.ntmps68
    go_wp2
    go_ret
    exact ⟨by simp [Gly.letterB, h1], rfl⟩

theorem digit_any (r : Nat) (hr : r ≤ 1114111) (w : World) :
    Calls Tryd.prog 69 #[.int .i32 r] w fun e w' => e = .returned (.bool (Gly.digitB r)) ∧ w = w' := by
  by_cases h1 : 48 ≤ r
  · by_cases h2 : r ≤ 57
    all_goals
      go_enter Tryd.func69, Tryd.ntmps69
      go_wp2
      go_ret
      exact ⟨by simp [Gly.digitB, h1, h2]; try omega, rfl⟩
  · go_enter Tryd.func69, Tryd.ntmps69
    go_wp2
    go_ret
    exact ⟨by simp [Gly.digitB, h1], rfl⟩

set_option maxHeartbeats 2000000 in
set_option maxRecDepth 100000 in
theorem name_in (s : ByteArray) (w : World) (h1 : 1 ≤ s.size) (h2 : s.size ≤ 16) :
    Calls Tryd.prog 60 #[.string s] w fun e w' => e = .returned (.bool (Gly.nameOk true s.data.toList)) ∧ Below w.heap.size w w' := by
  have e1 : s.toList.isEmpty = false := by rw [Lib.toList_data]; cases h : s.data.toList with
    | nil => rw [Lib.size_eq, h] at h1; simp at h1
    | cons a t => rfl
  have e2 : (s.toList == []) = false := by rw [Lib.toList_data]; cases h : s.data.toList with
    | nil => rw [Lib.size_eq, h] at h1; simp at h1
    | cons a t => rfl
  go_enter Tryd.func60, Tryd.ntmps60
  go_wp2
  go_loopw [] (fun wr => ∃ (pos : Nat), wr.heap[w.heap.size]? = some (.stringIter s pos) ∧ Below w.heap.size w wr ∧ Hid (Gly.nameOk (pos == 0) (s.data.toList.drop pos) = Gly.nameOk true s.data.toList) ∧ pos ≤ s.size) (fun wr => s.size - wr.iterPos w.heap.size)
  case atStart => exact ⟨0, World.iter_heap w s 0, (Below.refl _ _).alloc (Nat.le_refl _) _, rfl, by omega⟩
  case round =>
    clear e1 e2
    obtain ⟨pos, hit, hbw, HS, hps⟩ := hrel
    have hpos0 := iterPos_of hit
    by_cases hp : pos < s.size
    · have hnx : ∀ ty, (Instr.next (.pointer (some ⟨w.heap.size, 0, none⟩)) true ty).run Tryd.prog wr = _ := fun ty => Lib.run_next_any_at wr w.heap.size s pos ty hit hp
      have hne := drop_ne hp
      have hwd := width s pos hp
      have hit2 := Lib.iterAt_heap wr w.heap.size s pos (pos + (Utf8.decode s pos).2) hit
      have hbw2 := Lib.below_iterAt hbw (k := w.heap.size) (Nat.le_refl _) s (pos + (Utf8.decode s pos).2)
      have hmx := Gly.dec_max _ hne
      have hst := Gly.nameOk_rune hne (pos == 0)
      rw [drop_next, HS.out, ← Gly.dec_at] at hst
      rw [← Gly.dec_at] at hmx
      have hle := letter_any (Utf8.decode s pos).1 hmx
      have hdi := digit_any (Utf8.decode s pos).1 hmx
      obtain ⟨W1, hW1⟩ : ∃ W1, W1 = wr.iterAt w.heap.size s (pos + (Utf8.decode s pos).2) := ⟨_, rfl⟩
      rw [← hW1] at hnx hit2 hbw2
      have hpz : (pos + (Utf8.decode s pos).2 == 0) = false := by simp; omega
      have HZ := Lib.hid hpz
      clear hW1 hit hbw hpz hne
      cases hl : Gly.letterB (Utf8.decode s pos).1 with
      | true =>
        rw [hl] at hst hle
        have HL := Lib.hid hle
        have HN := Lib.hid hst
        clear hl hst hle hdi
        go_wp2_with (go_at_call 68; refine (HL.out _).mono ?_; rintro e w' ⟨rfl, rfl⟩)
        go_roundw
        case rel => exact ⟨_, hit2, hbw2, Lib.hid (by rw [HZ.out, HN.out]; simp), hwd.2⟩
        case measure => rw [iterPos_of hit2, hpos0]; omega
      | false =>
        rw [hl] at hst hle
        have HL := Lib.hid hle
        by_cases h0 : pos = 0
        · subst h0
          have HN := Lib.hid hst
          clear hl hst hle hdi
          go_wp2_with (go_at_call 68; refine (HL.out _).mono ?_; rintro e w' ⟨rfl, rfl⟩)
          go_ret
          exact ⟨by rw [HN.out]; rfl, hbw2⟩
        · have p0 : (pos == 0) = false := by simp; omega
          have p1 : ((pos : Int) == 0) = false := by simp; omega
          rw [p0] at hst
          clear p0
          cases hd : Gly.digitB (Utf8.decode s pos).1 with
          | true =>
            rw [hd] at hst hdi
            have HD := Lib.hid hdi
            have HN := Lib.hid hst
            clear hl hst hle hdi hd
            go_wp2_with (first
              | (go_at_call 68; refine (HL.out _).mono ?_; rintro e w' ⟨rfl, rfl⟩)
              | (go_at_call 69; refine (HD.out _).mono ?_; rintro e w' ⟨rfl, rfl⟩))
            go_roundw
            case rel => exact ⟨_, hit2, hbw2, Lib.hid (by rw [HZ.out, HN.out]; simp), hwd.2⟩
            case measure => rw [iterPos_of hit2, hpos0]; omega
          | false =>
            rw [hd] at hst hdi
            have HD := Lib.hid hdi
            by_cases h95 : (Utf8.decode s pos).1 = 95
            · rw [h95] at hst
              have HN := Lib.hid hst
              have hn1 : (((Utf8.decode s pos).1 : Int) != 95) = false := by rw [h95]; rfl
              clear hl hst hle hdi hd h95
              go_wp2_with (first
                | (go_at_call 68; refine (HL.out _).mono ?_; rintro e w' ⟨rfl, rfl⟩)
                | (go_at_call 69; refine (HD.out _).mono ?_; rintro e w' ⟨rfl, rfl⟩))
              go_roundw
              case rel => exact ⟨_, hit2, hbw2, Lib.hid (by rw [HZ.out, HN.out]; simp), hwd.2⟩
              case measure => rw [iterPos_of hit2, hpos0]; omega
            · have hn0 : ((Utf8.decode s pos).1 == 95) = false := by simp [h95]
              rw [hn0] at hst
              have HN := Lib.hid hst
              have hn1 : (((Utf8.decode s pos).1 : Int) != 95) = true := by rw [bne_iff_ne]; omega
              clear hl hst hle hdi hd h95 hn0
              go_wp2_with (first
                | (go_at_call 68; refine (HL.out _).mono ?_; rintro e w' ⟨rfl, rfl⟩)
                | (go_at_call 69; refine (HD.out _).mono ?_; rintro e w' ⟨rfl, rfl⟩))
              go_ret
              exact ⟨by rw [HN.out]; rfl, hbw2⟩
    · have hnx : ∀ ty, (Instr.next (.pointer (some ⟨w.heap.size, 0, none⟩)) true ty).run Tryd.prog wr = _ := fun ty => Lib.run_next_end_at wr w.heap.size s pos ty hit hp
      have hc := HS.out
      rw [drop_end hp, Gly.nameOk] at hc
      have HC := Lib.hid hc
      clear hc
      go_wp2
      go_ret
      exact ⟨by rw [← HC.out]; rfl, hbw⟩

set_option maxHeartbeats 1000000 in
set_option maxRecDepth 100000 in
theorem name_free (s : ByteArray) (w : World) :
    Calls Tryd.prog 60 #[.string s] w fun e w' => e = .returned (.bool (Gly.nameB s.data.toList)) ∧ Below w.heap.size w w' := by
  by_cases h0 : 1 ≤ s.size ∧ s.size ≤ 16
  · have h := name_in s w h0.1 h0.2
    rw [Gly.nameB, ← Lib.size_eq, decide_eq_true h0, Bool.true_and]
    exact h
  · rw [Gly.nameB, ← Lib.size_eq, decide_eq_false h0, Bool.false_and]
    by_cases h1 : s.size = 0
    · have e : s = ⟨#[]⟩ := by
        cases s with
        | mk d =>
          have : d.size = 0 := h1
          rw [Array.eq_empty_of_size_eq_zero this]
      subst e
      clear h0 h1
      go_enter Tryd.func60, Tryd.ntmps60
      go_wp2
      go_ret
      exact ⟨rfl, Below.refl _ _⟩
    · have h2 : 16 < s.size := by omega
      have e1 : s.toList.isEmpty = false := by rw [Lib.toList_data]; cases h : s.data.toList with
        | nil => rw [Lib.size_eq, h] at h2; simp at h2
        | cons a t => rfl
      have e2 : (s.toList == []) = false := by rw [Lib.toList_data]; cases h : s.data.toList with
        | nil => rw [Lib.size_eq, h] at h2; simp at h2
        | cons a t => rfl
      clear h0
      go_enter Tryd.func60, Tryd.ntmps60
      go_wp2
      go_ret
      exact ⟨rfl, Below.refl _ _⟩
theorem name_any (s : ByteArray) (w : World) (_hs : s.size ≤ 4000000) :
    Calls Tryd.prog 60 #[.string s] w fun e w' => e = .returned (.bool (Gly.nameB s.data.toList)) ∧ Below w.heap.size w w' := name_free s w
end Gl
end Go.Proofs.YtopncohhagebbaaDoor

namespace Go.Proofs.YtopncohhagebbaaDoor
open Go.RowKit
namespace Ref

def rv (l : List UInt8) : Value := .tuple #[.int .i64 (Gly.rr l).1, .int .i64 (Gly.rr l).2]
theorem rv_zero {l : List UInt8} (h : Gly.rr l = (0, 0)) : rv l = .tuple #[.int .i64 0, .int .i64 0] := by rw [rv, h]; rfl
theorem rv_out {l : List UInt8} {r : Int} {n : Nat} (h : Gly.rr l = (r.toNat, n)) (hr : 0 ≤ r) : rv l = .tuple #[.int .i64 r, .int .i64 n] := by
  rw [rv, h]
  show Value.tuple #[.int .i64 ((r.toNat : Nat) : Int), .int .i64 (n : Int)] = _
  rw [Int.toNat_of_nonneg hr]

end Ref
end Go.Proofs.YtopncohhagebbaaDoor

namespace Go.Proofs.YtopncohhagebbaaDoor
open Go.RowKit
namespace Ref

theorem infoInt : (Tryd.prog.info? 3).map (fun i => (i.zero, i.size, i.bytes)) = some (some (.int .i64 0), 1, 8) := by kernel_rfl

/-- Numbers as cells. -/
def nums (t : List Nat) : List Value := t.map fun (r : Nat) => Value.int .i64 (r : Int)
theorem nums_length (t : List Nat) : (nums t).length = t.length := by simp [nums]
theorem nums_snoc (t : List Nat) (r : Nat) : nums t ++ [Value.int .i64 (r : Int)] = nums (t ++ [r]) := by simp [nums]

/-- What Runes answers: a list of its own, or that the text isn't UTF-8. -/
def RunesOut (B : Nat) (w : World) (o : Option (List Nat)) (e : Ending) (w' : World) : Prop :=
  match o with
  | some t => ∃ v, e = .returned (.tuple #[v, .bool true]) ∧ w'.ownsRow B 3 1 v t.length (nums t) ∧ Below B w w'
  | none => e = .returned (.tuple #[.slice none 0 0, .bool false]) ∧ Below B w w'

end Ref
end Go.Proofs.YtopncohhagebbaaDoor

namespace Go.Proofs.YtopncohhagebbaaDoor
open Go.RowKit
namespace Ref

end Ref
end Go.Proofs.YtopncohhagebbaaDoor

namespace Go.Proofs.YtopncohhagebbaaDoor
open Go.RowKit
namespace Ref

theorem owned_any {w : World} {B : Nat} {e : TypeId} {v : Value} {n : Nat} {xs : List Value} (h : w.ownsRow B e 1 v n xs) : ∃ ao cap, v = .slice ao n cap := by
  rcases h.2 with ⟨hv, h0⟩ | ⟨g, cap, cur, hv, _⟩
  · exact ⟨none, 0, by rw [hv, h0]⟩
  · exact ⟨_, _, hv⟩
theorem owned_some {w : World} {B : Nat} {e : TypeId} {v : Value} {n : Nat} {xs : List Value} (h : w.ownsRow B e 1 v n xs) (hn : 1 ≤ n) : ∃ g cap, v = .slice (some ⟨g, 0, none⟩) n cap := by
  rcases h.2 with ⟨hv, h0⟩ | ⟨g, cap, cur, hv, _⟩
  · omega
  · exact ⟨g, cap, hv⟩

theorem runes_max : ∀ (k : Nat) (l : List UInt8), l.length ≤ k → ∀ t, Gly.runes l = some t → ∀ r ∈ t, r ≤ 1114111
  | k, l, hk, t, ht, r, hr => by
    by_cases h : l = []
    · subst h; rw [Gly.runes_nil] at ht; cases ht; simp at hr
    · have hl := Gly.drop_lt h
      obtain ⟨k, rfl⟩ : ∃ j, k = j + 1 := ⟨k - 1, by omega⟩
      cases hb : Gly.bad l with
      | true => rw [Gly.runes_bad h hb] at ht; cases ht
      | false =>
        rw [Gly.runes_step h hb] at ht
        cases hu : Gly.runes (l.drop (Gly.dec l).2) with
        | none => rw [hu] at ht; cases ht
        | some u =>
          rw [hu] at ht; cases ht
          rcases List.mem_cons.1 hr with rfl | hr
          · exact Gly.dec_max l h
          · exact runes_max k _ (by omega) u hu r hr

end Ref
end Go.Proofs.YtopncohhagebbaaDoor
