/-
  Layer 3 (bond), seventh part: the document's Good and Read.
-/
import Derived.Test.YtbgbkhjcfchamaaBondA
import Derived.Test.YtbgbkhjcfchamaaWhoE
namespace Go.Proofs.Ytbgbkhjcfchamaa
open Go.RowKit
namespace Bond
open Who (bs bs_list bs_size bs_self Held read cut cutV cutR_any cut_len readRV readR_any kindR_any kind_len read_text)

theorem goodR_any (t i r a b c : ByteArray) (w : World) (ht : t.size ≤ 4000000) (hi : i.size ≤ 4000000) (hr : r.size ≤ 4000000) (ha : a.size ≤ 4000000) (hb : b.size ≤ 4000000) (hc : c.size ≤ 4000000) :
    Calls Try.prog 7 #[tupV t i r a b c] w fun e w' => e = .returned (.bool (goodB (t.data.toList, i.data.toList, r.data.toList) (a.data.toList, b.data.toList, c.data.toList))) ∧ Below w.heap.size w w' := by
  have h1 := fun w => Ref.name_any t w ht
  have h2 := fun w => Ref.id_any i w hi
  have h3 := fun w => Ref.name_any r w hr
  have h4 := fun w => kindR_any a b c w ha hb hc
  unfold goodB kind3
  dsimp only
  generalize Who.kind a.data.toList b.data.toList c.data.toList = k at *
  generalize Gly.nameB r.data.toList = n3 at *
  generalize Gly.idB i.data.toList = n2 at *
  generalize Gly.nameB t.data.toList = n1 at *
  unfold tupV
  have H4 := Lib.hid h4
  clear h4
  cases n1 with
  | false =>
    have H1 := Lib.hid h1
    clear h1 h2 h3
    go_enter Try.func7, Try.ntmps7
    go_wp2_with fail
    refine (H1.out _).mono ?_
    rintro e w1 ⟨rfl, rfl⟩
    go_wp2
    go_ret
    exact ⟨rfl, Who.boxed (Below.refl _ _)⟩
  | true =>
    have H1 := Lib.hid h1
    clear h1
    cases n2 with
    | false =>
      have H2 := Lib.hid h2
      clear h2 h3
      go_enter Try.func7, Try.ntmps7
      go_wp2_with fail
      refine (H1.out _).mono ?_
      rintro e w1 ⟨rfl, rfl⟩
      go_wp2_with fail
      refine (H2.out _).mono ?_
      rintro e w2 ⟨rfl, b2⟩
      go_wp2
      go_ret
      exact ⟨rfl, Who.boxed b2⟩
    | true =>
      have H2 := Lib.hid h2
      clear h2
      cases n3 with
      | false =>
        have H3 := Lib.hid h3
        clear h3
        go_enter Try.func7, Try.ntmps7
        go_wp2_with fail
        refine (H1.out _).mono ?_
        rintro e w1 ⟨rfl, rfl⟩
        go_wp2_with fail
        refine (H2.out _).mono ?_
        rintro e w2 ⟨rfl, b2⟩
        have I2 := Held.step b2 (Held.one6 w _ _ _ _ _ _ _)
        have q := I2.all
        simp only [List.forall_mem_cons] at q
        clear b2
        obtain ⟨⟨-, k0, -⟩, ⟨-, k1, -⟩, ⟨-, k2, -⟩, ⟨-, k3, -⟩, ⟨-, k4, -⟩, ⟨-, k5, -⟩, -⟩ := q
        go_wp2_with fail
        refine (H3.out _).mono ?_
        rintro e w3 ⟨rfl, rfl⟩
        go_wp2
        go_ret
        exact ⟨rfl, I2.below⟩
      | true =>
        have H3 := Lib.hid h3
        clear h3
        go_enter Try.func7, Try.ntmps7
        go_wp2_with fail
        refine (H1.out _).mono ?_
        rintro e w1 ⟨rfl, rfl⟩
        go_wp2_with fail
        refine (H2.out _).mono ?_
        rintro e w2 ⟨rfl, b2⟩
        have I2 := Held.step b2 (Held.one6 w _ _ _ _ _ _ _)
        have q := I2.all
        simp only [List.forall_mem_cons] at q
        clear b2
        obtain ⟨⟨-, k0, -⟩, ⟨-, k1, -⟩, ⟨-, k2, -⟩, ⟨-, k3, -⟩, ⟨-, k4, -⟩, ⟨-, k5, -⟩, -⟩ := q
        go_wp2_with fail
        refine (H3.out _).mono ?_
        rintro e w3 ⟨rfl, rfl⟩
        go_wp2_with fail
        refine (H4.out _).mono ?_
        rintro e w4 ⟨rfl, b4⟩
        go_wp2
        go_ret
        exact ⟨by simp, (Held.step b4 I2).below⟩

/-- What the document's Read answers. -/
def rrV : Option (L3 × L3) → Value
  | some (x, y) => .tuple #[tupV (bs x.1) (bs x.2.1) (bs x.2.2) (bs y.1) (bs y.2.1) (bs y.2.2), .bool true]
  | none => .tuple #[tupV ⟨#[]⟩ ⟨#[]⟩ ⟨#[]⟩ ⟨#[]⟩ ⟨#[]⟩ ⟨#[]⟩, .bool false]
theorem readRV_parts (x : Option (List UInt8 × List UInt8 × List UInt8)) : ∃ a b c z, readRV x = .tuple #[.agg #[.string a, .string b, .string c], .bool z] := by
  cases x with
  | none => exact ⟨_, _, _, _, rfl⟩
  | some x => exact ⟨_, _, _, _, rfl⟩
theorem Held.drewN {w x : World} {L : List (Addr × Value)} : ∀ (n : Nat), Held w L x → Held w L (x.drewN n)
  | _, h => ⟨below_drewN h.1 _, h.2⟩
theorem cut64 (s : ByteArray) (w : World) (hs : s.size ≤ 4000000) : Calls Try.prog 25 #[.string s, .int .u8 64] w fun e w' => e = .returned (cutV 64 s.data.toList) ∧ ∃ n, w' = w.drewN n := cutR_any s 64 w hs

set_option maxHeartbeats 4000000 in
theorem breadR_any (s : ByteArray) (w : World) (hs : s.size ≤ 4000000) :
    Calls Try.prog 11 #[.string s] w fun e w' => e = .returned (rrV (rd s.data.toList)) ∧ Below w.heap.size w w' := by
  have h1 := fun w => cut64 s w hs
  cases hc : cut 64 s.data.toList with
  | none =>
    have HP := Lib.hid (rd_none hc)
    rw [cutV, hc] at h1
    simp only [bs_self] at h1
    have H1 := Lib.hid h1
    have h2 := fun w => readR_any s w hs
    have h3 := fun w => readR_any ⟨#[]⟩ w (by decide)
    obtain ⟨a, b, c, z, hv⟩ := readRV_parts (read s.data.toList)
    obtain ⟨a', b', c', z', hv'⟩ := readRV_parts (read (ByteArray.mk #[]).data.toList)
    rw [hv] at h2
    rw [hv'] at h3
    have H2 := Lib.hid h2
    have H3 := Lib.hid h3
    clear h1 h2 h3 hc hv hv'
    go_enter Try.func11, Try.ntmps11
    go_wp2_with fail
    refine (H1.out _).mono ?_
    rintro e w1 ⟨rfl, n1, rfl⟩
    have I1 := Held.drewN n1 (Held.one6 w 25 (.string ⟨#[]⟩) (.string ⟨#[]⟩) (.string ⟨#[]⟩) (.string ⟨#[]⟩) (.string ⟨#[]⟩) (.string ⟨#[]⟩))
    go_wp2_with fail
    refine (H2.out _).mono ?_
    rintro e w2 ⟨rfl, b2⟩
    have I2 := (Held.step b2 I1).more3 23 (.string a) (.string b) (.string c)
    clear b2
    go_wp2_with fail
    refine (H3.out _).mono ?_
    rintro e w3 ⟨rfl, b3⟩
    have I3 := (Held.step b3 I2).more3 23 (.string a') (.string b') (.string c')
    clear b3
    have q := I3.all
    simp only [List.forall_mem_cons] at q
    obtain ⟨-, -, -, -, -, -, ⟨-, k0, f0⟩, ⟨-, k1, f1⟩, ⟨-, k2, f2⟩, ⟨-, k3, f3⟩, ⟨-, k4, f4⟩, ⟨-, k5, f5⟩, -⟩ := q
    go_wp2
    refine bodyPost_ret (v := rrV none) (by simp [results, Try.results11, go_sem, rrV, tupV, k0, k1, k2, k3, k4, k5]) rfl ⟨?_, ?_⟩
    · rw [HP.out]
    · exact ((((((Held.below I3).setCell (by simp) _).setCell (by simp) _).setCell (by simp) _).setCell (by simp) _).setCell (by simp) _).setCell (by simp) _
  | some p =>
    obtain ⟨pa, pb⟩ := p
    have hlen := cut_len hc
    rw [← Lib.size_eq] at hlen
    have hp := rd_some hc
    rw [cutV, hc] at h1
    have H1 := Lib.hid h1
    have h2 := fun w => readR_any (bs pa) w (by rw [bs_size]; omega)
    have h3 := fun w => readR_any (bs pb) w (by rw [bs_size]; omega)
    rw [bs_list] at h2 h3
    clear h1 hc hlen
    cases hx : read pa with
    | none =>
      rw [hx] at h2 hp
      obtain ⟨a', b', c', z', hv'⟩ := readRV_parts (read pb)
      rw [hv'] at h3
      unfold readRV at h2
      have H2 := Lib.hid h2
      have H3 := Lib.hid h3
      have HP := Lib.hid hp
      clear h2 h3 hp hx hv'
      go_enter Try.func11, Try.ntmps11
      go_wp2_with fail
      refine (H1.out _).mono ?_
      rintro e w1 ⟨rfl, n1, rfl⟩
      have I1 := Held.drewN n1 (Held.one6 w 25 (.string ⟨#[]⟩) (.string ⟨#[]⟩) (.string ⟨#[]⟩) (.string ⟨#[]⟩) (.string ⟨#[]⟩) (.string ⟨#[]⟩))
      go_wp2_with fail
      refine (H2.out _).mono ?_
      rintro e w2 ⟨rfl, b2⟩
      have I2 := (Held.step b2 I1).more3 23 (.string ⟨#[]⟩) (.string ⟨#[]⟩) (.string ⟨#[]⟩)
      clear b2
      go_wp2_with fail
      refine (H3.out _).mono ?_
      rintro e w3 ⟨rfl, b3⟩
      have I3 := (Held.step b3 I2).more3 23 (.string a') (.string b') (.string c')
      clear b3
      have q := I3.all
      simp only [List.forall_mem_cons] at q
      obtain ⟨-, -, -, -, -, -, ⟨-, k0, f0⟩, ⟨-, k1, f1⟩, ⟨-, k2, f2⟩, ⟨-, k3, f3⟩, ⟨-, k4, f4⟩, ⟨-, k5, f5⟩, -⟩ := q
      go_wp2
      refine bodyPost_ret (v := rrV none) (by simp [results, Try.results11, go_sem, rrV, tupV, k0, k1, k2, k3, k4, k5]) rfl ⟨?_, ?_⟩
      · rw [HP.out]
      · exact ((((((Held.below I3).setCell (by simp) _).setCell (by simp) _).setCell (by simp) _).setCell (by simp) _).setCell (by simp) _).setCell (by simp) _
    | some x =>
      have hln := kind_len (read_text (t := x.1) (i := x.2.1) (r := x.2.2) hx).2
      rw [hx] at h2 hp
      unfold readRV Who.subjV at h2
      dsimp only at h2
      have H2 := Lib.hid h2
      clear h2 hx
      cases hy : read pb with
      | none =>
        rw [hy] at h3 hp
        unfold readRV at h3
        have H3 := Lib.hid h3
        have HP := Lib.hid hp
        clear h3 hp hy hln
        go_enter Try.func11, Try.ntmps11
        go_wp2_with fail
        refine (H1.out _).mono ?_
        rintro e w1 ⟨rfl, n1, rfl⟩
        have I1 := Held.drewN n1 (Held.one6 w 25 (.string ⟨#[]⟩) (.string ⟨#[]⟩) (.string ⟨#[]⟩) (.string ⟨#[]⟩) (.string ⟨#[]⟩) (.string ⟨#[]⟩))
        go_wp2_with fail
        refine (H2.out _).mono ?_
        rintro e w2 ⟨rfl, b2⟩
        have I2 := (Held.step b2 I1).more3 23 (.string (bs x.1)) (.string (bs x.2.1)) (.string (bs x.2.2))
        clear b2
        go_wp2_with fail
        refine (H3.out _).mono ?_
        rintro e w3 ⟨rfl, b3⟩
        have I3 := (Held.step b3 I2).more3 23 (.string ⟨#[]⟩) (.string ⟨#[]⟩) (.string ⟨#[]⟩)
        clear b3
        have q := I3.all
        simp only [List.forall_mem_cons] at q
        obtain ⟨-, -, -, -, -, -, ⟨-, k0, f0⟩, ⟨-, k1, f1⟩, ⟨-, k2, f2⟩, ⟨-, k3, f3⟩, ⟨-, k4, f4⟩, ⟨-, k5, f5⟩, -⟩ := q
        go_wp2
        refine bodyPost_ret (v := rrV none) (by simp [results, Try.results11, go_sem, rrV, tupV, k0, k1, k2, k3, k4, k5]) rfl ⟨?_, ?_⟩
        · rw [HP.out]
        · exact ((((((Held.below I3).setCell (by simp) _).setCell (by simp) _).setCell (by simp) _).setCell (by simp) _).setCell (by simp) _).setCell (by simp) _
      | some y =>
        rw [hy] at h3 hp
        unfold readRV Who.subjV at h3
        dsimp only at h3 hp
        have H3 := Lib.hid h3
        have h4 := fun w => kindR_any (bs x.1) (bs x.2.1) (bs x.2.2) w (by rw [bs_size]; omega) (by rw [bs_size]; omega) (by rw [bs_size]; omega)
        simp only [bs_list] at h4
        change ∀ w, Calls _ _ _ w fun e w' => e = .returned (.int .i64 (kind3 x : Nat)) ∧ _ at h4
        clear h3 hy hln
        by_cases hk : kind3 x = 2
        · rw [hk] at h4
          have H4 := Lib.hid h4
          have HP := Lib.hid (hp.trans (if_pos hk))
          clear h4 hp hk
          go_enter Try.func11, Try.ntmps11
          go_wp2_with fail
          refine (H1.out _).mono ?_
          rintro e w1 ⟨rfl, n1, rfl⟩
          have I1 := Held.drewN n1 (Held.one6 w 25 (.string ⟨#[]⟩) (.string ⟨#[]⟩) (.string ⟨#[]⟩) (.string ⟨#[]⟩) (.string ⟨#[]⟩) (.string ⟨#[]⟩))
          go_wp2_with fail
          refine (H2.out _).mono ?_
          rintro e w2 ⟨rfl, b2⟩
          have I2 := (Held.step b2 I1).more3 23 (.string (bs x.1)) (.string (bs x.2.1)) (.string (bs x.2.2))
          clear b2
          go_wp2_with fail
          refine (H3.out _).mono ?_
          rintro e w3 ⟨rfl, b3⟩
          have I3 := (Held.step b3 I2).more3 23 (.string (bs y.1)) (.string (bs y.2.1)) (.string (bs y.2.2))
          clear b3
          have q := I3.all
          simp only [List.forall_mem_cons] at q
          obtain ⟨-, -, -, ⟨-, s0, -⟩, ⟨-, s1, -⟩, ⟨-, s2, -⟩, -⟩ := q
          go_wp2_with fail
          refine (H4.out _).mono ?_
          rintro e w4 ⟨rfl, b4⟩
          have I4 := Held.step b4 I3
          have q := I4.all
          simp only [List.forall_mem_cons] at q
          clear b4 s0 s1 s2
          obtain ⟨⟨-, o0, -⟩, ⟨-, o1, -⟩, ⟨-, o2, -⟩, ⟨-, s0, -⟩, ⟨-, s1, -⟩, ⟨-, s2, -⟩, ⟨-, k0, f0⟩, ⟨-, k1, f1⟩, ⟨-, k2, f2⟩, ⟨-, k3, f3⟩, ⟨-, k4, f4⟩, ⟨-, k5, f5⟩, -⟩ := q
          go_wp2
          refine bodyPost_ret (v := rrV (some (x, y))) (by simp [results, Try.results11, go_sem, rrV, tupV, k0, k1, k2, k3, k4, k5]) rfl ⟨?_, ?_⟩
          · rw [HP.out]
          · exact ((((((Held.below I4).setCell (by simp) _).setCell (by simp) _).setCell (by simp) _).setCell (by simp) _).setCell (by simp) _).setCell (by simp) _
        · have hk2 : ((kind3 x : Int) == 2) = false := by simp; omega
          have hk3 : ((kind3 x : Int) != 2) = true := by rw [bne, hk2]; rfl
          have H4 := Lib.hid h4
          have HP := Lib.hid (hp.trans (if_neg hk))
          clear h4 hp hk
          go_enter Try.func11, Try.ntmps11
          go_wp2_with fail
          refine (H1.out _).mono ?_
          rintro e w1 ⟨rfl, n1, rfl⟩
          have I1 := Held.drewN n1 (Held.one6 w 25 (.string ⟨#[]⟩) (.string ⟨#[]⟩) (.string ⟨#[]⟩) (.string ⟨#[]⟩) (.string ⟨#[]⟩) (.string ⟨#[]⟩))
          go_wp2_with fail
          refine (H2.out _).mono ?_
          rintro e w2 ⟨rfl, b2⟩
          have I2 := (Held.step b2 I1).more3 23 (.string (bs x.1)) (.string (bs x.2.1)) (.string (bs x.2.2))
          clear b2
          go_wp2_with fail
          refine (H3.out _).mono ?_
          rintro e w3 ⟨rfl, b3⟩
          have I3 := (Held.step b3 I2).more3 23 (.string (bs y.1)) (.string (bs y.2.1)) (.string (bs y.2.2))
          clear b3
          have q := I3.all
          simp only [List.forall_mem_cons] at q
          obtain ⟨-, -, -, ⟨-, s0, -⟩, ⟨-, s1, -⟩, ⟨-, s2, -⟩, -⟩ := q
          go_wp2_with fail
          refine (H4.out _).mono ?_
          rintro e w4 ⟨rfl, b4⟩
          have I4 := Held.step b4 I3
          clear b4 s0 s1 s2
          have q := I4.all
          simp only [List.forall_mem_cons] at q
          obtain ⟨-, -, -, -, -, -, ⟨-, k0, f0⟩, ⟨-, k1, f1⟩, ⟨-, k2, f2⟩, ⟨-, k3, f3⟩, ⟨-, k4, f4⟩, ⟨-, k5, f5⟩, -⟩ := q
          go_wp2
          refine bodyPost_ret (v := rrV none) (by simp [results, Try.results11, go_sem, rrV, tupV, k0, k1, k2, k3, k4, k5]) rfl ⟨?_, ?_⟩
          · rw [HP.out]
          · exact ((((((Held.below I4).setCell (by simp) _).setCell (by simp) _).setCell (by simp) _).setCell (by simp) _).setCell (by simp) _).setCell (by simp) _
end Bond
end Go.Proofs.Ytbgbkhjcfchamaa
