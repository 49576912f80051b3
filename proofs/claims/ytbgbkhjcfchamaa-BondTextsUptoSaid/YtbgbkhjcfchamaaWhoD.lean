/-
  Layer 2 (who), fourth part: the document's Cut and Read.
-/
import Derived.Test.YtbgbkhjcfchamaaWhoC
namespace Go.Proofs.Ytbgbkhjcfchamaa
open Go.RowKit
namespace Who

theorem cut_hit {c : UInt8} {l : List UInt8} {k : Nat} (h : k < l.length) (hk : c ∉ l.take k) (he : l[k] = c) : cut c l = some (l.take k, l.drop (k + 1)) := by
  have e : l = l.take k ++ c :: l.drop (k + 1) := by
    conv => lhs; rw [← List.take_append_drop k l, List.drop_eq_getElem_cons h, he]
  conv => lhs; rw [e]
  exact cut_some _ hk
theorem cut_miss {c : UInt8} {l : List UInt8} {k : Nat} (h : k < l.length) (hk : c ∉ l.take k) (he : l[k] ≠ c) : c ∉ l.take (k + 1) := by
  rw [List.take_succ_eq_append_getElem h, List.mem_append, not_or]
  exact ⟨hk, by simpa using fun e => he e.symm⟩

/-- What Cut answers. -/
def cutV (c : UInt8) (l : List UInt8) : Value :=
  match cut c l with
  | some (a, b) => .tuple #[.string (bs a), .string (bs b), .bool true]
  | none => .tuple #[.string (bs l), .string ⟨#[]⟩, .bool false]

theorem slice_to (s : ByteArray) (p : Nat) (h : p ≤ s.size) (W : World) :
    (Instr.slice 9 (.string s) none (some (.int .i64 (p : Int))) none).run Try.prog W = .ok (.string (bs (s.data.toList.take p))) W := by
  rw [run_slice_string_to_if _ 9 s .i64 (p : Int) Try.underlying9, if_pos (by omega), Int.toNat_natCast, bs_cut]
  simp
theorem slice_next (s : ByteArray) (a : Nat) (h : a + 1 ≤ s.size) (W : World) :
    (Instr.slice 9 (.string s) (some (.int .i64 ((a : Int) + 1))) none none).run Try.prog W = .ok (.string (bs (s.data.toList.drop (a + 1)))) W := slice_from s (a + 1) h W

set_option maxHeartbeats 2000000 in
theorem cutR_any (s : ByteArray) (c : UInt8) (w : World) (hs : s.size ≤ 4000000) :
    Calls Try.prog 25 #[.string s, .int .u8 (c.toNat : Int)] w fun e w' => e = .returned (cutV c s.data.toList) ∧ ∃ n, w' = w.drewN n := by
  go_enter Try.func25, Try.ntmps25
  go_wp2
  go_loop [7] (fun i => ∃ k : Nat, i = .int .i64 k ∧ k ≤ s.size ∧ Hid (c ∉ s.data.toList.take k)) (fun i => s.size - (intOf i).toNat)
  case atStart => exact ⟨0, rfl, by omega, Lib.hid (by simp)⟩
  case round =>
    obtain ⟨k, rfl, hk, HS⟩ := hrel
    by_cases hp : k < s.size
    · have hp' : k < s.data.toList.length := by rw [← Lib.size_eq]; exact hp
      have hg : s[k] = s.data.toList[k] := rfl
      by_cases hc : s[k] = c
      · have HC := Lib.hid (cut_hit hp' HS.out (hg.symm.trans hc))
        have h1 : ((s[k]).toNat == c.toNat) = true := by simp [hc]
        have h2 : (((s[k]).toNat : Int) == (c.toNat : Int)) = true := by simp [hc]
        have e1 : IntKind.i64.wrap ((k : Int) + 1) = (k : Int) + 1 := IntWalk.i64_in _ (by omega)
        have s1 := slice_to s k hk
        have s2 := slice_next s k hp
        clear hc hg
        go_wp2
        go_quiet (fail)
        go_wp2
        go_ret3
        exact ⟨by rw [cutV, HC.out]; rfl, _, rfl⟩
      · have HN := Lib.hid (cut_miss hp' HS.out (fun e => hc (hg.trans e)))
        have h1 : ((s[k]).toNat == c.toNat) = false := by simpa using fun e => hc (UInt8.toNat_inj.1 e)
        have h2 : (((s[k]).toNat : Int) == (c.toNat : Int)) = false := by
          rw [beq_eq_false_iff_ne]
          exact fun e => hc (UInt8.toNat_inj.1 (by omega))
        clear hc hg
        go_wp2
        go_round
        case rel => exact ⟨k + 1, by go_num, by omega, HN⟩
        case measure => simp [intOf]; omega
    · have hn := HS.out
      rw [List.take_of_length_le (by rw [← Lib.size_eq]; omega)] at hn
      have HC := Lib.hid (cut_none hn)
      clear hn
      go_wp2
      go_ret3
      exact ⟨by rw [cutV, HC.out]; simp [bs_self], 0, rfl⟩

theorem cut58 (s : ByteArray) (w : World) (hs : s.size ≤ 4000000) : Calls Try.prog 25 #[.string s, .int .u8 58] w fun e w' => e = .returned (cutV 58 s.data.toList) ∧ ∃ n, w' = w.drewN n := cutR_any s 58 w hs
theorem cut35 (s : ByteArray) (w : World) (hs : s.size ≤ 4000000) : Calls Try.prog 25 #[.string s, .int .u8 35] w fun e w' => e = .returned (cutV 35 s.data.toList) ∧ ∃ n, w' = w.drewN n := cutR_any s 35 w hs

theorem cut_len {c : UInt8} {l a b : List UInt8} (h : cut c l = some (a, b)) : a.length + 1 + b.length = l.length := by
  obtain ⟨e, _⟩ := cut_of h
  rw [e, List.length_append, List.length_cons]; omega

theorem Held.two3 (w : World) (T1 T2 : TypeId) (a0 a1 a2 b0 b1 b2 : Value) (n : Nat) :
    Held w [(⟨w.heap.size, 0, none⟩, a0), (⟨w.heap.size, 1, none⟩, a1), (⟨w.heap.size, 2, none⟩, a2), (⟨w.heap.size + 1, 0, none⟩, b0), (⟨w.heap.size + 1, 1, none⟩, b1), (⟨w.heap.size + 1, 2, none⟩, b2)]
      (((w.alloc (.cells #[a0, a1, a2] T1)).drewN n).alloc (.cells #[b0, b1, b2] T2)) := by
  refine ⟨((below_drewN ((Below.refl _ _).alloc (Nat.le_refl _) _) n).alloc (by simp) _), ?_⟩
  change ∀ p : Addr × Value, p ∈ _ → p.1.block < ((w.alloc (.cells #[a0, a1, a2] T1)).alloc (.cells #[b0, b1, b2] T2)).heap.size ∧ ((w.alloc (.cells #[a0, a1, a2] T1)).alloc (.cells #[b0, b1, b2] T2)).cell? p.1 = some p.2 ∧ ((w.alloc (.cells #[a0, a1, a2] T1)).alloc (.cells #[b0, b1, b2] T2)).frozen? p.1 = false
  simp only [List.forall_mem_cons]
  simp
  omega

/-- What the document's Read answers. -/
def readRV : Option (List UInt8 × List UInt8 × List UInt8) → Value
  | some x => .tuple #[subjV x, .bool true]
  | none => .tuple #[.agg #[.string ⟨#[]⟩, .string ⟨#[]⟩, .string ⟨#[]⟩], .bool false]

set_option maxHeartbeats 4000000 in
theorem readR_any (s : ByteArray) (w : World) (hs : s.size ≤ 4000000) :
    Calls Try.prog 26 #[.string s] w fun e w' => e = .returned (readRV (read s.data.toList)) ∧ Below w.heap.size w w' := by
  have h1 := fun w => cut58 s w hs
  cases hc : cut 58 s.data.toList with
  | none =>
    have HR := Lib.hid (read_none hc)
    have h2 := fun w => cut35 ⟨#[]⟩ w (by decide)
    rw [cutV, hc] at h1
    rw [show cutV 35 (ByteArray.mk #[]).data.toList = .tuple #[.string ⟨#[]⟩, .string ⟨#[]⟩, .bool false] by rfl] at h2
    have H1 := Lib.hid h1
    have H2 := Lib.hid h2
    clear h1 h2 hc
    go_enter Try.func26, Try.ntmps26
    go_wp2_with fail
    refine (H1.out _).mono ?_
    rintro e w1 ⟨rfl, n1, rfl⟩
    go_wp2_with fail
    refine (H2.out _).mono ?_
    rintro e w1 ⟨rfl, n2, rfl⟩
    go_wp2
    refine bodyPost_ret (v := readRV none) (by simp [results, Try.results26, go_sem, readRV]) rfl ⟨?_, ?_⟩
    · rw [HR.out]
    · repeat' (first | exact Below.refl _ _ | refine below_drewN ?_ _ | refine Below.setCell ?_ ?_ _ | refine Below.alloc ?_ ?_ _)
      all_goals (first | exact Nat.le_refl _ | (simp; done) | (simp; omega))
  | some x =>
    obtain ⟨t, m⟩ := x
    have hlen := cut_len hc
    rw [← Lib.size_eq] at hlen
    rw [cutV, hc] at h1
    have H1 := Lib.hid h1
    have h2 := fun w => cut35 (bs m) w (by rw [bs_size]; omega)
    cases hc2 : cut 35 m with
    | none =>
      rw [cutV, bs_list, hc2] at h2
      have hr := read_one hc hc2
      have h3 := fun w => kindR_any (bs t) (bs m) ⟨#[]⟩ w (by rw [bs_size]; omega) (by rw [bs_size]; omega) (by decide)
      simp only [bs_list] at h3
      change ∀ w, Calls _ _ _ w fun e w' => e = .returned (.int .i64 (kind t m [] : Nat)) ∧ _ at h3
      have hk3 := kind_le t m []
      generalize kind t m [] = k at *
      have H2 := Lib.hid h2
      have H3 := Lib.hid h3
      by_cases hk : k = 0
      · subst hk
        have HR := Lib.hid (hr.trans (if_pos rfl))
        clear h1 h2 h3 hc hc2 hr hk3 hlen
        go_enter Try.func26, Try.ntmps26
        go_wp2_with fail
        refine (H1.out _).mono ?_
        rintro e w1 ⟨rfl, n1, rfl⟩
        go_wp2_with fail
        refine (H2.out _).mono ?_
        rintro e w1 ⟨rfl, n2, rfl⟩
        go_wp2_with fail
        refine (H3.out _).mono ?_
        rintro e w3 ⟨rfl, b3⟩
        have I := Held.step b3 (Held.two3 w _ _ _ _ _ _ _ _ (n1 + n2))
        have q := I.all
        simp only [List.forall_mem_cons] at q
        obtain ⟨⟨_, k0, f0⟩, ⟨_, k1, f1⟩, ⟨_, k2, f2⟩, ⟨_, k3, _⟩, ⟨_, k4, _⟩, ⟨_, k5, _⟩, _⟩ := q
        clear b3
        go_wp2
        refine bodyPost_ret (v := readRV none) (by simp [results, Try.results26, go_sem, readRV, bs, k0, k1, k2]) rfl ⟨?_, ?_⟩
        · rw [HR.out]
        · exact (((Held.below I).setCell (by simp) _).setCell (by simp) _).setCell (by simp) _
      · have HR := Lib.hid (hr.trans (if_neg hk))
        have hk1 : ((k : Int) == 0) = false := by simp; omega
        clear h1 h2 h3 hc hc2 hr hk3 hlen hk
        go_enter Try.func26, Try.ntmps26
        go_wp2_with fail
        refine (H1.out _).mono ?_
        rintro e w1 ⟨rfl, n1, rfl⟩
        go_wp2_with fail
        refine (H2.out _).mono ?_
        rintro e w1 ⟨rfl, n2, rfl⟩
        go_wp2_with fail
        refine (H3.out _).mono ?_
        rintro e w3 ⟨rfl, b3⟩
        have I := Held.step b3 (Held.two3 w _ _ _ _ _ _ _ _ (n1 + n2))
        have q := I.all
        simp only [List.forall_mem_cons] at q
        obtain ⟨⟨_, k0, f0⟩, ⟨_, k1, f1⟩, ⟨_, k2, f2⟩, ⟨_, k3, _⟩, ⟨_, k4, _⟩, ⟨_, k5, _⟩, _⟩ := q
        clear b3
        go_wp2
        refine bodyPost_ret (v := readRV (some (t, m, []))) (by simp [results, Try.results26, go_sem, readRV, subjV, bs, k0, k1, k2]) rfl ⟨?_, ?_⟩
        · rw [HR.out]
        · exact (((Held.below I).setCell (by simp) _).setCell (by simp) _).setCell (by simp) _
    | some y =>
      obtain ⟨i, r⟩ := y
      have hlen2 := cut_len hc2
      rw [cutV, bs_list, hc2] at h2
      have hr := read_two hc hc2
      have h3 := fun w => kindR_any (bs t) (bs i) (bs r) w (by rw [bs_size]; omega) (by rw [bs_size]; omega) (by rw [bs_size]; omega)
      simp only [bs_list] at h3
      have hk3 := kind_le t i r
      generalize kind t i r = k at *
      have H2 := Lib.hid h2
      have H3 := Lib.hid h3
      by_cases hk : k = 0
      · subst hk
        have HR := Lib.hid (hr.trans (if_pos (Or.inl rfl)))
        clear h1 h2 h3 hc hc2 hr hk3 hlen hlen2
        go_enter Try.func26, Try.ntmps26
        go_wp2_with fail
        refine (H1.out _).mono ?_
        rintro e w1 ⟨rfl, n1, rfl⟩
        go_wp2_with fail
        refine (H2.out _).mono ?_
        rintro e w1 ⟨rfl, n2, rfl⟩
        go_wp2_with fail
        refine (H3.out _).mono ?_
        rintro e w3 ⟨rfl, b3⟩
        have I := Held.step b3 (Held.two3 w _ _ _ _ _ _ _ _ (n1 + n2))
        have q := I.all
        simp only [List.forall_mem_cons] at q
        obtain ⟨⟨_, k0, f0⟩, ⟨_, k1, f1⟩, ⟨_, k2, f2⟩, ⟨_, k3, _⟩, ⟨_, k4, _⟩, ⟨_, k5, _⟩, _⟩ := q
        clear b3
        go_wp2
        refine bodyPost_ret (v := readRV none) (by simp [results, Try.results26, go_sem, readRV, bs, k0, k1, k2]) rfl ⟨?_, ?_⟩
        · rw [HR.out]
        · exact (((Held.below I).setCell (by simp) _).setCell (by simp) _).setCell (by simp) _
      · have hk1 : ((k : Int) == 0) = false := by simp; omega
        by_cases he : r = []
        · have HR := Lib.hid (hr.trans (if_pos (Or.inr he)))
          obtain ⟨e1, e2⟩ := emp_true (x := bs r) ((bs_list r).trans he)
          clear h1 h2 h3 hc hc2 hr hk3 hlen hlen2 hk he
          go_enter Try.func26, Try.ntmps26
          go_wp2_with fail
          refine (H1.out _).mono ?_
          rintro e w1 ⟨rfl, n1, rfl⟩
          go_wp2_with fail
          refine (H2.out _).mono ?_
          rintro e w1 ⟨rfl, n2, rfl⟩
          go_wp2_with fail
          refine (H3.out _).mono ?_
          rintro e w3 ⟨rfl, b3⟩
          have I := Held.step b3 (Held.two3 w _ _ _ _ _ _ _ _ (n1 + n2))
          have q := I.all
          simp only [List.forall_mem_cons] at q
          obtain ⟨⟨_, k0, f0⟩, ⟨_, k1, f1⟩, ⟨_, k2, f2⟩, ⟨_, k3, _⟩, ⟨_, k4, _⟩, ⟨_, k5, _⟩, _⟩ := q
          clear b3
          go_wp2
          refine bodyPost_ret (v := readRV none) (by simp [results, Try.results26, go_sem, readRV, bs, k0, k1, k2]) rfl ⟨?_, ?_⟩
          · rw [HR.out]
          · exact (((Held.below I).setCell (by simp) _).setCell (by simp) _).setCell (by simp) _
        · have HR := Lib.hid (hr.trans (if_neg (by rw [not_or]; exact ⟨hk, he⟩)))
          obtain ⟨e1, e2⟩ := emp_false (x := bs r) (fun e => he ((bs_list r).symm.trans e))
          clear h1 h2 h3 hc hc2 hr hk3 hlen hlen2 hk he
          go_enter Try.func26, Try.ntmps26
          go_wp2_with fail
          refine (H1.out _).mono ?_
          rintro e w1 ⟨rfl, n1, rfl⟩
          go_wp2_with fail
          refine (H2.out _).mono ?_
          rintro e w1 ⟨rfl, n2, rfl⟩
          go_wp2_with fail
          refine (H3.out _).mono ?_
          rintro e w3 ⟨rfl, b3⟩
          have I := Held.step b3 (Held.two3 w _ _ _ _ _ _ _ _ (n1 + n2))
          have q := I.all
          simp only [List.forall_mem_cons] at q
          obtain ⟨⟨_, k0, f0⟩, ⟨_, k1, f1⟩, ⟨_, k2, f2⟩, ⟨_, k3, _⟩, ⟨_, k4, _⟩, ⟨_, k5, _⟩, _⟩ := q
          clear b3
          go_wp2
          refine bodyPost_ret (v := readRV (some (t, i, r))) (by simp [results, Try.results26, go_sem, readRV, subjV, bs, k0, k1, k2]) rfl ⟨?_, ?_⟩
          · rw [HR.out]
          · exact (((Held.below I).setCell (by simp) _).setCell (by simp) _).setCell (by simp) _
end Who
end Go.Proofs.Ytbgbkhjcfchamaa
