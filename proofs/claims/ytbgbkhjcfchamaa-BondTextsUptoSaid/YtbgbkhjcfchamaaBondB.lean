/-
  Layer 3 (bond), second part: what Match answers, of any filter and any tuple.
-/
import Derived.Test.YtbgbkhjcfchamaaBondA
import Derived.Test.YtbgbkhjcfchamaaWhoE
namespace Go.Proofs.Ytbgbkhjcfchamaa
open Go.RowKit
namespace Bond
open Who (bcell boxed Held emp_true emp_false beq_bytes)

/-- A filter as a value. -/
def filV (f0 f1 f2 f3 f4 f5 : ByteArray) (bare : Bool) : Value := .agg #[.string f0, .string f1, .string f2, .string f3, .string f4, .string f5, .bool bare]
/-- A field that is empty, or the same. -/
def fit (p q : ByteArray) : Bool := decide (p.data.toList = []) || decide (p.data.toList = q.data.toList)
def pairsOf (f0 f1 f2 f3 f4 f5 t i r a b c : ByteArray) : List (ByteArray × ByteArray) := [(f0, t), (f1, i), (f2, r), (f3, a), (f4, b), (f5, c)]
def allFit (l : List (ByteArray × ByteArray)) : Bool := l.all fun p => fit p.1 p.2
def matchB (f0 f1 f2 f3 f4 f5 : ByteArray) (bare : Bool) (t i r a b c : ByteArray) : Bool :=
  allFit (pairsOf f0 f1 f2 f3 f4 f5 t i r a b c) && (!bare || decide (c.data.toList = []))

theorem fit_next {l : List (ByteArray × ByteArray)} {k : Nat} {p q : ByteArray} (h : l[k]? = some (p, q)) (ha : allFit (l.take k) = true) (hf : fit p q = true) : allFit (l.take (k + 1)) = true := by
  unfold allFit at *
  rw [List.take_add_one, h, List.all_append, ha]
  simpa using hf
theorem fit_not {l : List (ByteArray × ByteArray)} {k : Nat} {p q : ByteArray} (h : l[k]? = some (p, q)) (hf : fit p q = false) : allFit l = false := by
  unfold allFit
  rw [List.all_eq_false]
  exact ⟨(p, q), List.mem_of_getElem? h, by simp [hf]⟩

theorem Held.one7 (w : World) (T : TypeId) (a0 a1 a2 a3 a4 a5 a6 : Value) :
    Held w [(⟨w.heap.size, 0, none⟩, a0), (⟨w.heap.size, 1, none⟩, a1), (⟨w.heap.size, 2, none⟩, a2), (⟨w.heap.size, 3, none⟩, a3), (⟨w.heap.size, 4, none⟩, a4), (⟨w.heap.size, 5, none⟩, a5), (⟨w.heap.size, 6, none⟩, a6)] (w.alloc (.cells #[a0, a1, a2, a3, a4, a5, a6] T)) := by
  refine ⟨((Below.refl _ _).alloc (Nat.le_refl _) _), ?_⟩
  simp only [List.forall_mem_cons]
  simp

theorem pair_at (f0 f1 f2 f3 f4 f5 t i r a b c : ByteArray) (k : Nat) (hk : k < 6) : ∃ p q, (pairsOf f0 f1 f2 f3 f4 f5 t i r a b c)[k]? = some (p, q) ∧
    ∀ W, (Instr.index 58 (.agg #[.string f0, .string t, .string f1, .string i, .string f2, .string r, .string f3, .string a, .string f4, .string b, .string f5, .string c]) (.int .i64 (k : Int))).run Try.prog W = .ok (.agg #[.string p, .string q]) W := by
  rcases (show k = 0 ∨ k = 1 ∨ k = 2 ∨ k = 3 ∨ k = 4 ∨ k = 5 by omega) with rfl | rfl | rfl | rfl | rfl | rfl
  all_goals exact ⟨_, _, rfl, fun W => by kernel_rfl⟩

set_option maxHeartbeats 4000000 in
theorem match_free (f0 f1 f2 f3 f4 f5 : ByteArray) (bare : Bool) (t i r a b c : ByteArray) (w : World) :
    Calls Try.prog 14 #[filV f0 f1 f2 f3 f4 f5 bare, tupV t i r a b c] w fun e w' => e = .returned (.bool (matchB f0 f1 f2 f3 f4 f5 bare t i r a b c)) ∧ Below w.heap.size w w' := by
  have HI := Lib.hid (pair_at f0 f1 f2 f3 f4 f5 t i r a b c)
  unfold filV tupV matchB
  have HL := Lib.hid (show (pairsOf f0 f1 f2 f3 f4 f5 t i r a b c).length = 6 from rfl)
  generalize pairsOf f0 f1 f2 f3 f4 f5 t i r a b c = ps at *
  have hH := Who.Held.more3 (Held.more6 (Held.one7 w 36 (.string f0) (.string f1) (.string f2) (.string f3) (.string f4) (.string f5) (.bool bare)) 25 (.string t) (.string i) (.string r) (.string a) (.string b) (.string c)) 23 (.string a) (.string b) (.string c)
  obtain ⟨W0, hW0⟩ : ∃ W0, W0 = ((w.alloc (.cells #[.string f0, .string f1, .string f2, .string f3, .string f4, .string f5, .bool bare] 36)).alloc (.cells #[.string t, .string i, .string r, .string a, .string b, .string c] 25)).alloc (.cells #[.string a, .string b, .string c] 23) := ⟨_, rfl⟩
  rw [← hW0] at hH
  simp only [World.size_alloc] at hH
  have HH := Lib.hid hH
  clear hH
  go_enter Try.func14, Try.ntmps14
  go_wp2
  rw [← hW0]
  clear hW0
  go_loopw [41] (fun v wr => ∃ k : Nat, v = .int .i64 k ∧ k ≤ 6 ∧ Hid (Held w [(⟨w.heap.size + 1 + 1, 2, none⟩, .string c), (⟨w.heap.size, 6, none⟩, .bool bare)] wr) ∧ Hid (allFit (ps.take k) = true)) (fun v _ => 6 - (intOf v).toNat)
  case atStart => exact ⟨0, rfl, by omega, Lib.hid ⟨HH.out.1, fun p hp => HH.out.2 p (by simp at hp ⊢; rcases hp with rfl | rfl <;> simp)⟩, Lib.hid (by simp [allFit])⟩
  case round =>
    clear HH
    obtain ⟨k, rfl, hk, HW, HS⟩ := hrel
    by_cases hp : k < 6
    · obtain ⟨p, q, hpq, hix⟩ := HI.out k hp
      have HP := Lib.hid hpq
      clear hpq
      cases hf : fit p q with
      | true =>
        have HN := Lib.hid (fit_next HP.out HS.out hf)
        by_cases he : p.data.toList = []
        · obtain ⟨e1, e2⟩ := emp_true he
          clear hf he
          go_wp2
          go_roundw
          case rel => exact ⟨k + 1, by go_num, by omega, Lib.hid (HW.out.step ((Below.refl _ _).alloc (Nat.le_refl _) _)), HN⟩
          case measure => simp [intOf]; omega
        · obtain ⟨e1, e2⟩ := emp_false he
          have hq : p.data.toList = q.data.toList := by simpa [fit, he] using hf
          have d1 : (p.toList == q.toList) = true := by rw [beq_bytes]; simpa using hq
          have d2 : (p.toList != q.toList) = false := by rw [bne, d1]; rfl
          clear hf he hq
          go_wp2
          go_roundw
          case rel => exact ⟨k + 1, by go_num, by omega, Lib.hid (HW.out.step ((Below.refl _ _).alloc (Nat.le_refl _) _)), HN⟩
          case measure => simp [intOf]; omega
      | false =>
        have HN := Lib.hid (fit_not HP.out hf)
        simp [fit] at hf
        obtain ⟨he, hq⟩ := hf
        obtain ⟨e1, e2⟩ := emp_false (x := p) (by simpa using he)
        have d1 : (p.toList == q.toList) = false := by rw [beq_bytes]; simpa using hq
        have d2 : (p.toList != q.toList) = true := by rw [bne, d1]; rfl
        clear he hq
        go_wp2
        go_ret
        exact ⟨by rw [HN.out]; rfl, (HW.out.step ((Below.refl _ _).alloc (Nat.le_refl _) _)).below⟩
    · have hA := HS.out
      rw [List.take_of_length_le (by rw [HL.out]; omega)] at hA
      have HA := Lib.hid hA
      have q := HW.out.all
      simp only [List.forall_mem_cons] at q
      obtain ⟨⟨-, k0, -⟩, ⟨-, k1, -⟩, -⟩ := q
      clear hA HI HL HS
      cases bare with
      | false =>
        go_wp2
        go_ret
        exact ⟨by rw [HA.out]; rfl, HW.out.below⟩
      | true =>
        by_cases he : c.data.toList = []
        · obtain ⟨e1, e2⟩ := emp_true he
          have HE := Lib.hid he
          clear he
          go_wp2
          go_ret
          exact ⟨by rw [HA.out, HE.out]; rfl, HW.out.below⟩
        · obtain ⟨e1, e2⟩ := emp_false he
          have HE := Lib.hid he
          clear he
          go_wp2
          go_ret
          exact ⟨by rw [HA.out, decide_eq_false HE.out]; rfl, HW.out.below⟩
end Bond
end Go.Proofs.Ytbgbkhjcfchamaa
