/-
  Layer 3 (bond), third part: filters whose set fields are of their form, and have those that they can't do without, are good: Right answers true.
-/
import Derived.Test.YtbgbkhjcfchamaaBondB
namespace Go.Proofs.Ytbgbkhjcfchamaa
open Go.RowKit
namespace Bond
open Who (bcell boxed Held emp_true emp_false star_true star_false)

theorem name_at (f0 f2 f3 f5 : ByteArray) (h0 : f0.data.toList = [] ∨ Gly.nameB f0.data.toList = true) (h2 : f2.data.toList = [] ∨ Gly.nameB f2.data.toList = true) (h3 : f3.data.toList = [] ∨ Gly.nameB f3.data.toList = true) (h5 : f5.data.toList = [] ∨ Gly.nameB f5.data.toList = true) (k : Nat) (hk : k < 4) :
    ∃ p : ByteArray, (p.data.toList = [] ∨ Gly.nameB p.data.toList = true) ∧
      ∀ W, (Instr.index 67 (.agg #[.string f0, .string f2, .string f3, .string f5]) (.int .i64 (k : Int))).run Try.prog W = .ok (.string p) W := by
  rcases (show k = 0 ∨ k = 1 ∨ k = 2 ∨ k = 3 by omega) with rfl | rfl | rfl | rfl
  · exact ⟨f0, h0, fun W => by kernel_rfl⟩
  · exact ⟨f2, h2, fun W => by kernel_rfl⟩
  · exact ⟨f3, h3, fun W => by kernel_rfl⟩
  · exact ⟨f5, h5, fun W => by kernel_rfl⟩

set_option maxHeartbeats 4000000 in
theorem formed_true (f0 f1 f2 f3 f4 f5 : ByteArray) (bare : Bool) (w : World)
    (h0 : f0.data.toList = [] ∨ Gly.nameB f0.data.toList = true) (h2 : f2.data.toList = [] ∨ Gly.nameB f2.data.toList = true) (h3 : f3.data.toList = [] ∨ Gly.nameB f3.data.toList = true) (h5 : f5.data.toList = [] ∨ Gly.nameB f5.data.toList = true)
    (h1 : f1.data.toList = [] ∨ Gly.idB f1.data.toList = true) (h4 : f4.data.toList = [] ∨ f4.data.toList = [42] ∨ Gly.idB f4.data.toList = true) :
    Calls Try.prog 29 #[filV f0 f1 f2 f3 f4 f5 bare] w fun e w' => e = .returned (.bool true) ∧ Below w.heap.size w w' := by
  have HI := Lib.hid (name_at f0 f2 f3 f5 h0 h2 h3 h5)
  have H1 := Lib.hid h1
  have H4 := Lib.hid h4
  have HN := Lib.hid (fun s w => Gl.name_free s w)
  have HD := Lib.hid (fun s w => Gl.id_free s w)
  clear h0 h1 h2 h3 h4 h5
  unfold filV
  have HH := Lib.hid (Held.one7 w 36 (.string f0) (.string f1) (.string f2) (.string f3) (.string f4) (.string f5) (.bool bare))
  go_enter Try.func29, Try.ntmps29
  go_wp2
  go_loopw [14] (fun v wr => ∃ k : Nat, v = .int .i64 k ∧ k ≤ 4 ∧ Hid (Held w [(⟨w.heap.size, 1, none⟩, .string f1), (⟨w.heap.size, 4, none⟩, .string f4)] wr)) (fun v _ => 4 - (intOf v).toNat)
  case atStart => exact ⟨0, rfl, by omega, Lib.hid ⟨HH.out.1, fun p hp => HH.out.2 p (by simp at hp ⊢; rcases hp with rfl | rfl <;> simp)⟩⟩
  case round =>
    clear HH
    obtain ⟨k, rfl, hk, HW⟩ := hrel
    by_cases hp : k < 4
    · obtain ⟨p, hpn, hix⟩ := HI.out k hp
      by_cases he : p.data.toList = []
      · obtain ⟨e1, e2⟩ := emp_true he
        clear hpn he
        go_wp2
        go_roundw
        case rel => exact ⟨k + 1, by go_num, by omega, HW⟩
        case measure => simp [intOf]; omega
      · obtain ⟨e1, e2⟩ := emp_false he
        have hn : Gly.nameB p.data.toList = true := hpn.resolve_left he
        have h1 := fun w => HN.out p w
        rw [hn] at h1
        have HC := Lib.hid h1
        clear h1 hn hpn he
        go_wp2_with (go_at_call 22; refine (HC.out _).mono ?_; rintro e w1 ⟨rfl, b1⟩)
        go_roundw
        case rel => exact ⟨k + 1, by go_num, by omega, Lib.hid (HW.out.step b1)⟩
        case measure => simp [intOf]; omega
    · clear HI hk
      have q := HW.out.all
      simp only [List.forall_mem_cons] at q
      obtain ⟨⟨-, k0, -⟩, ⟨-, k1, -⟩, -⟩ := q
      by_cases he1 : f1.data.toList = []
      · obtain ⟨e1, e2⟩ := emp_true he1
        by_cases he4 : f4.data.toList = []
        · obtain ⟨e3, e4⟩ := emp_true he4
          clear he1 he4
          go_wp2
          go_ret
          exact ⟨rfl, HW.out.below⟩
        · obtain ⟨e3, e4⟩ := emp_false he4
          by_cases hs : f4.data.toList = [42]
          · have s1 := star_true hs
            clear he1 he4 hs
            go_wp2
            go_ret
            exact ⟨rfl, HW.out.below⟩
          · have s1 := star_false hs
            have h4 := fun w => HD.out f4 w
            rw [(H4.out.resolve_left he4).resolve_left hs] at h4
            have HC := Lib.hid h4
            clear h4 he1 he4 hs
            go_wp2_with (go_at_call 39; refine (HC.out _).mono ?_; rintro e w1 ⟨rfl, b1⟩)
            go_ret
            exact ⟨rfl, (HW.out.step b1).below⟩
      · obtain ⟨e1, e2⟩ := emp_false he1
        have h1 := fun w => HD.out f1 w
        rw [H1.out.resolve_left he1] at h1
        have HC1 := Lib.hid h1
        clear h1 he1
        by_cases he4 : f4.data.toList = []
        · obtain ⟨e3, e4⟩ := emp_true he4
          clear he4
          go_wp2_with fail
          refine (HC1.out _).mono ?_
          rintro e w1 ⟨rfl, b1⟩
          have HW1 := Lib.hid (HW.out.step b1)
          have q := HW1.out.all
          simp only [List.forall_mem_cons] at q
          clear b1 k0 k1
          obtain ⟨⟨-, k0, -⟩, ⟨-, k1, -⟩, -⟩ := q
          go_wp2
          go_ret
          exact ⟨rfl, HW1.out.below⟩
        · obtain ⟨e3, e4⟩ := emp_false he4
          by_cases hs : f4.data.toList = [42]
          · have s1 := star_true hs
            clear he4 hs
            go_wp2_with fail
            refine (HC1.out _).mono ?_
            rintro e w1 ⟨rfl, b1⟩
            have HW1 := Lib.hid (HW.out.step b1)
            have q := HW1.out.all
            simp only [List.forall_mem_cons] at q
            clear b1 k0 k1
            obtain ⟨⟨-, k0, -⟩, ⟨-, k1, -⟩, -⟩ := q
            go_wp2
            go_ret
            exact ⟨rfl, HW1.out.below⟩
          · have s1 := star_false hs
            have h4 := fun w => HD.out f4 w
            rw [(H4.out.resolve_left he4).resolve_left hs] at h4
            have HC := Lib.hid h4
            clear h4 he4 hs
            go_wp2_with fail
            refine (HC1.out _).mono ?_
            rintro e w1 ⟨rfl, b1⟩
            have HW1 := Lib.hid (HW.out.step b1)
            have q := HW1.out.all
            simp only [List.forall_mem_cons] at q
            clear b1 k0 k1
            obtain ⟨⟨-, k0, -⟩, ⟨-, k1, -⟩, -⟩ := q
            go_wp2_with fail
            refine (HC.out _).mono ?_
            rintro e w2 ⟨rfl, b2⟩
            go_wp2
            go_ret
            exact ⟨rfl, (HW1.out.step b2).below⟩

theorem back_at (f0 f1 f3 f4 f5 : ByteArray) (h1 : f1.data.toList = [] ∨ f0.data.toList ≠ []) (h4 : f4.data.toList = [] ∨ f3.data.toList ≠ []) (h5 : f5.data.toList = [] ∨ f3.data.toList ≠ []) (k : Nat) (hk : k < 3) :
    ∃ p q : ByteArray, (p.data.toList = [] ∨ q.data.toList ≠ []) ∧
      ∀ W, (Instr.index 68 (.agg #[.string f1, .string f0, .string f4, .string f3, .string f5, .string f3]) (.int .i64 (k : Int))).run Try.prog W = .ok (.agg #[.string p, .string q]) W := by
  rcases (show k = 0 ∨ k = 1 ∨ k = 2 by omega) with rfl | rfl | rfl
  · exact ⟨f1, f0, h1, fun W => by kernel_rfl⟩
  · exact ⟨f4, f3, h4, fun W => by kernel_rfl⟩
  · exact ⟨f5, f3, h5, fun W => by kernel_rfl⟩

set_option maxHeartbeats 4000000 in
theorem backed_true (f0 f1 f2 f3 f4 f5 : ByteArray) (bare : Bool) (w : World)
    (h1 : f1.data.toList = [] ∨ f0.data.toList ≠ []) (h4 : f4.data.toList = [] ∨ f3.data.toList ≠ []) (h5 : f5.data.toList = [] ∨ f3.data.toList ≠ []) (hb : bare = true → f3.data.toList ≠ [] ∧ f5.data.toList = []) :
    Calls Try.prog 30 #[filV f0 f1 f2 f3 f4 f5 bare] w fun e w' => e = .returned (.bool true) ∧ Below w.heap.size w w' := by
  have HI := Lib.hid (back_at f0 f1 f3 f4 f5 h1 h4 h5)
  have HB := Lib.hid hb
  clear h1 h4 h5 hb
  unfold filV
  have HH := Lib.hid (Held.one7 w 36 (.string f0) (.string f1) (.string f2) (.string f3) (.string f4) (.string f5) (.bool bare))
  go_enter Try.func30, Try.ntmps30
  go_wp2
  go_loopw [21] (fun v wr => ∃ k : Nat, v = .int .i64 k ∧ k ≤ 3 ∧ Hid (Held w [(⟨w.heap.size, 3, none⟩, .string f3), (⟨w.heap.size, 5, none⟩, .string f5), (⟨w.heap.size, 6, none⟩, .bool bare)] wr)) (fun v _ => 3 - (intOf v).toNat)
  case atStart => exact ⟨0, rfl, by omega, Lib.hid ⟨HH.out.1, fun p hp => HH.out.2 p (by simp at hp ⊢; rcases hp with rfl | rfl | rfl <;> simp)⟩⟩
  case round =>
    clear HH
    obtain ⟨k, rfl, hk, HW⟩ := hrel
    by_cases hp : k < 3
    · obtain ⟨p, q, hpn, hix⟩ := HI.out k hp
      by_cases he : p.data.toList = []
      · obtain ⟨e1, e2⟩ := emp_true he
        clear hpn he
        go_wp2
        go_roundw
        case rel => exact ⟨k + 1, by go_num, by omega, Lib.hid (HW.out.step ((Below.refl _ _).alloc (Nat.le_refl _) _))⟩
        case measure => simp [intOf]; omega
      · obtain ⟨e1, e2⟩ := emp_false he
        obtain ⟨e3, e4⟩ := emp_false (hpn.resolve_left he)
        clear hpn he
        go_wp2
        go_roundw
        case rel => exact ⟨k + 1, by go_num, by omega, Lib.hid (HW.out.step ((Below.refl _ _).alloc (Nat.le_refl _) _))⟩
        case measure => simp [intOf]; omega
    · clear HI hk
      have q := HW.out.all
      simp only [List.forall_mem_cons] at q
      obtain ⟨⟨-, k0, -⟩, ⟨-, k1, -⟩, ⟨-, k2, -⟩, -⟩ := q
      cases bare with
      | false =>
        go_wp2
        go_ret
        exact ⟨rfl, HW.out.below⟩
      | true =>
        obtain ⟨hx, hy⟩ := HB.out rfl
        obtain ⟨e1, e2⟩ := emp_false hx
        obtain ⟨e3, e4⟩ := emp_true hy
        clear hx hy
        go_wp2
        go_ret
        exact ⟨rfl, HW.out.below⟩

theorem right_true (f0 f1 f2 f3 f4 f5 : ByteArray) (bare : Bool) (w : World)
    (h0 : f0.data.toList = [] ∨ Gly.nameB f0.data.toList = true) (h2 : f2.data.toList = [] ∨ Gly.nameB f2.data.toList = true) (h3 : f3.data.toList = [] ∨ Gly.nameB f3.data.toList = true) (h5 : f5.data.toList = [] ∨ Gly.nameB f5.data.toList = true)
    (h1 : f1.data.toList = [] ∨ Gly.idB f1.data.toList = true) (h4 : f4.data.toList = [] ∨ f4.data.toList = [42] ∨ Gly.idB f4.data.toList = true)
    (g1 : f1.data.toList = [] ∨ f0.data.toList ≠ []) (g4 : f4.data.toList = [] ∨ f3.data.toList ≠ []) (g5 : f5.data.toList = [] ∨ f3.data.toList ≠ []) (hb : bare = true → f3.data.toList ≠ [] ∧ f5.data.toList = []) :
    Calls Try.prog 13 #[filV f0 f1 f2 f3 f4 f5 bare] w fun e w' => e = .returned (.bool true) ∧ Below w.heap.size w w' := by
  have H1 := Lib.hid (fun w => formed_true f0 f1 f2 f3 f4 f5 bare w h0 h2 h3 h5 h1 h4)
  have H2 := Lib.hid (fun w => backed_true f0 f1 f2 f3 f4 f5 bare w g1 g4 g5 hb)
  have HH := Lib.hid (Held.one7 w 36 (.string f0) (.string f1) (.string f2) (.string f3) (.string f4) (.string f5) (.bool bare))
  clear h0 h1 h2 h3 h4 h5 g1 g4 g5 hb
  unfold filV at *
  go_enter Try.func13, Try.ntmps13
  go_wp2_with fail
  refine (H1.out _).mono ?_
  rintro e w1 ⟨rfl, b1⟩
  have I1 := Held.step b1 HH.out
  have q := I1.all
  simp only [List.forall_mem_cons] at q
  clear b1
  obtain ⟨⟨-, k0, -⟩, ⟨-, k1, -⟩, ⟨-, k2, -⟩, ⟨-, k3, -⟩, ⟨-, k4, -⟩, ⟨-, k5, -⟩, ⟨-, k6, -⟩, -⟩ := q
  go_wp2_with fail
  refine (H2.out _).mono ?_
  rintro e w2 ⟨rfl, b2⟩
  go_wp2
  go_ret
  exact ⟨rfl, (Held.step b2 I1).below⟩
end Bond
end Go.Proofs.Ytbgbkhjcfchamaa
