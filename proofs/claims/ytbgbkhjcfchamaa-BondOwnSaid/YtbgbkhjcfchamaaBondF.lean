/-
  Layer 3 (bond), sixth part: package bond's Read.
-/
import Derived.Test.YtbgbkhjcfchamaaBondD
import Derived.Test.YtbgbkhjcfchamaaBondE
import Derived.Test.YtbgbkhjcfchamaaWhoF
namespace Go.Proofs.Ytbgbkhjcfchamaa
open Go.RowKit
namespace Bond
open Who (bs bs_list bs_size bs_self Held read readO readV readOV readO_any read_any clone_any kind_len read_text)

/-- What Read answers. -/
def prV : Option (L3 × L3) → Value
  | some (x, y) => .tuple #[tupV (bs x.1) (bs x.2.1) (bs x.2.2) (bs y.1) (bs y.2.1) (bs y.2.2), .int .i64 0]
  | none => .tuple #[tupV ⟨#[]⟩ ⟨#[]⟩ ⟨#[]⟩ ⟨#[]⟩ ⟨#[]⟩ ⟨#[]⟩, .int .i64 2]

theorem readV_parts (x : Option (List UInt8 × List UInt8 × List UInt8)) : ∃ a b c z, readV x = .tuple #[.agg #[.string a, .string b, .string c], .int .i64 z] := by
  cases x with
  | none => exact ⟨_, _, _, _, rfl⟩
  | some x => exact ⟨_, _, _, _, rfl⟩

theorem pr_eq {l o r s : List UInt8} (h : sp l = (o, r, s)) : pr l = match readO o, read s with
    | some q, some y => if Gly.nameB r then some ((q.1, q.2, r), y) else none
    | _, _ => none := by simp only [pr, h]; rfl

set_option maxHeartbeats 4000000 in
theorem bread_any (s : ByteArray) (w : World) (hs : s.size ≤ 4000000) :
    Calls Try.prog 9 #[.string s] w fun e w' => e = .returned (prV (pr s.data.toList)) ∧ Below w.heap.size w w' := by
  have h1 := fun w => split_any s w hs
  have hl := sp_len s.data.toList
  rw [← Lib.size_eq] at hl
  obtain ⟨o, r, u, hsp⟩ : ∃ o r u, sp s.data.toList = (o, r, u) := ⟨_, _, _, rfl⟩
  have hpr := pr_eq hsp
  rw [hsp] at h1 hl
  unfold spV at h1
  dsimp only at h1 hl
  have H1 := Lib.hid h1
  have h2 := fun w => readO_any (bs o) w (by rw [bs_size]; omega)
  have h3 := fun w => read_any (bs u) w (by rw [bs_size]; omega)
  rw [bs_list] at h2 h3
  clear h1 hsp
  cases ho : readO o with
  | none =>
    rw [ho] at h2 hpr
    obtain ⟨a, b, c, z, hv⟩ := readV_parts (read u)
    rw [hv] at h3
    unfold readOV at h2
    have H2 := Lib.hid h2
    have H3 := Lib.hid h3
    have HP := Lib.hid hpr
    clear h2 h3 hpr hv ho hl
    go_enter Try.func9, Try.ntmps9
    go_wp2_with fail
    refine (H1.out _).mono ?_
    rintro e w1 ⟨rfl, b1⟩
    have I1 := Held.step b1 (Held.one6 w _ _ _ _ _ _ _)
    clear b1
    go_wp2_with fail
    refine (H2.out _).mono ?_
    rintro e w2 ⟨rfl, b2⟩
    have I2 := (Held.step b2 I1).more2 45 (.string ⟨#[]⟩) (.string ⟨#[]⟩)
    clear b2
    go_wp2_with fail
    refine (H3.out _).mono ?_
    rintro e w3 ⟨rfl, b3⟩
    have I3 := (Held.step b3 I2).more3 23 (.string a) (.string b) (.string c)
    have q := I3.all
    simp only [List.forall_mem_cons] at q
    clear b3
    obtain ⟨-, -, -, -, -, ⟨-, k0, f0⟩, ⟨-, k1, f1⟩, ⟨-, k2, f2⟩, ⟨-, k3, f3⟩, ⟨-, k4, f4⟩, ⟨-, k5, f5⟩, -⟩ := q
    go_wp2
    refine bodyPost_ret (v := prV none) (by simp [results, Try.results9, go_sem, prV, tupV, k0, k1, k2, k3, k4, k5]) rfl ⟨?_, ?_⟩
    · rw [HP.out]
    · exact ((((((Held.below I3).setCell (by simp) _).setCell (by simp) _).setCell (by simp) _).setCell (by simp) _).setCell (by simp) _).setCell (by simp) _
  | some q =>
    rw [ho] at h2 hpr
    unfold readOV at h2
    dsimp only at h2
    have H2 := Lib.hid h2
    clear h2 ho
    cases hu : read u with
    | none =>
      rw [hu] at h3 hpr
      unfold readV at h3
      have H3 := Lib.hid h3
      have HP := Lib.hid hpr
      clear h3 hpr hu hl
      go_enter Try.func9, Try.ntmps9
      go_wp2_with fail
      refine (H1.out _).mono ?_
      rintro e w1 ⟨rfl, b1⟩
      have I1 := Held.step b1 (Held.one6 w _ _ _ _ _ _ _)
      clear b1
      go_wp2_with fail
      refine (H2.out _).mono ?_
      rintro e w2 ⟨rfl, b2⟩
      have I2 := (Held.step b2 I1).more2 45 (.string (bs q.1)) (.string (bs q.2))
      clear b2
      go_wp2_with fail
      refine (H3.out _).mono ?_
      rintro e w3 ⟨rfl, b3⟩
      have I3 := (Held.step b3 I2).more3 23 (.string ⟨#[]⟩) (.string ⟨#[]⟩) (.string ⟨#[]⟩)
      have q := I3.all
      simp only [List.forall_mem_cons] at q
      clear b3
      obtain ⟨-, -, -, -, -, ⟨-, k0, f0⟩, ⟨-, k1, f1⟩, ⟨-, k2, f2⟩, ⟨-, k3, f3⟩, ⟨-, k4, f4⟩, ⟨-, k5, f5⟩, -⟩ := q
      go_wp2
      refine bodyPost_ret (v := prV none) (by simp [results, Try.results9, go_sem, prV, tupV, k0, k1, k2, k3, k4, k5]) rfl ⟨?_, ?_⟩
      · rw [HP.out]
      · exact ((((((Held.below I3).setCell (by simp) _).setCell (by simp) _).setCell (by simp) _).setCell (by simp) _).setCell (by simp) _).setCell (by simp) _
    | some y =>
      have hln := kind_len (read_text (t := y.1) (i := y.2.1) (r := y.2.2) hu).2
      rw [hu] at h3 hpr
      unfold readV Who.subjV at h3
      dsimp only at h3 hpr
      have H3 := Lib.hid h3
      have h4 := fun w => Gl.name_any (bs r) w (by rw [bs_size]; omega)
      rw [bs_list] at h4
      have HC := Lib.hid (fun w => clone_any (bs r) w (by rw [bs_size]; omega))
      clear h3 hu hl hln
      cases hn : Gly.nameB r with
      | false =>
        rw [hn] at h4 hpr
        have H4 := Lib.hid h4
        have HP := Lib.hid (hpr.trans (if_neg (by decide)))
        clear h4 hpr hn
        go_enter Try.func9, Try.ntmps9
        go_wp2_with fail
        refine (H1.out _).mono ?_
        rintro e w1 ⟨rfl, b1⟩
        have I1 := Held.step b1 (Held.one6 w _ _ _ _ _ _ _)
        clear b1
        go_wp2_with fail
        refine (H2.out _).mono ?_
        rintro e w2 ⟨rfl, b2⟩
        have I2 := (Held.step b2 I1).more2 45 (.string (bs q.1)) (.string (bs q.2))
        clear b2
        go_wp2_with fail
        refine (H3.out _).mono ?_
        rintro e w3 ⟨rfl, b3⟩
        have I3 := (Held.step b3 I2).more3 23 (.string (bs y.1)) (.string (bs y.2.1)) (.string (bs y.2.2))
        clear b3
        go_wp2_with fail
        refine (H4.out _).mono ?_
        rintro e w4 ⟨rfl, b4⟩
        have I4 := Held.step b4 I3
        have q := I4.all
        simp only [List.forall_mem_cons] at q
        clear b4
        obtain ⟨-, -, -, -, -, ⟨-, k0, f0⟩, ⟨-, k1, f1⟩, ⟨-, k2, f2⟩, ⟨-, k3, f3⟩, ⟨-, k4, f4⟩, ⟨-, k5, f5⟩, -⟩ := q
        go_wp2
        refine bodyPost_ret (v := prV none) (by simp [results, Try.results9, go_sem, prV, tupV, k0, k1, k2, k3, k4, k5]) rfl ⟨?_, ?_⟩
        · rw [HP.out]
        · exact ((((((Held.below I4).setCell (by simp) _).setCell (by simp) _).setCell (by simp) _).setCell (by simp) _).setCell (by simp) _).setCell (by simp) _
      | true =>
        rw [hn] at h4 hpr
        have H4 := Lib.hid h4
        have HP := Lib.hid (hpr.trans (if_pos rfl))
        clear h4 hpr hn
        go_enter Try.func9, Try.ntmps9
        go_wp2_with fail
        refine (H1.out _).mono ?_
        rintro e w1 ⟨rfl, b1⟩
        have I1 := Held.step b1 (Held.one6 w _ _ _ _ _ _ _)
        clear b1
        go_wp2_with fail
        refine (H2.out _).mono ?_
        rintro e w2 ⟨rfl, b2⟩
        have I2 := (Held.step b2 I1).more2 45 (.string (bs q.1)) (.string (bs q.2))
        have z2 := ((Held.step b2 I1).all _ (List.mem_cons_self ..)).1
        clear b2
        go_wp2_with fail
        refine (H3.out _).mono ?_
        rintro e w3 ⟨rfl, b3⟩
        have I3 := (Held.step b3 I2).more3 23 (.string (bs y.1)) (.string (bs y.2.1)) (.string (bs y.2.2))
        have z3 := (Held.step b3 I2).all _ (List.mem_cons_of_mem _ (List.mem_cons_of_mem _ (List.mem_cons_self ..)))
        have z3 := z3.1
        clear b3
        go_wp2_with fail
        refine (H4.out _).mono ?_
        rintro e w4 ⟨rfl, b4⟩
        have I4 := Held.step b4 I3
        clear b4
        go_wp2_with fail
        generalize w2.heap.size = B2 at *
        generalize w3.heap.size = B3 at *
        have n2 : ¬ B2 = w.heap.size := by omega
        have n3 : ¬ B3 = w.heap.size := by omega
        have m2 : ¬ w.heap.size = B2 := by omega
        have m3 : ¬ w.heap.size = B3 := by omega
        clear I1 I2 I3 z2 z3 H1 H2 H3 H4
        have I0 := I4.drew
        have q := I0.all
        simp only [List.forall_mem_cons] at q
        obtain ⟨⟨-, s0, -⟩, ⟨-, s1, -⟩, ⟨-, s2, -⟩, ⟨-, o0, -⟩, ⟨-, o1, -⟩, ⟨-, k0, f0⟩, ⟨-, k1, f1⟩, ⟨-, k2, f2⟩, ⟨-, k3, f3⟩, ⟨-, k4, f4⟩, ⟨-, k5, f5⟩, -⟩ := q
        clear I4
        go_region_held3 (fun x => x.cell? ⟨B3, 0, none⟩ = some (.string (bs y.1)) ∧ x.cell? ⟨B3, 1, none⟩ = some (.string (bs y.2.1)) ∧ x.cell? ⟨B3, 2, none⟩ = some (.string (bs y.2.2)) ∧ x.cell? ⟨B2, 0, none⟩ = some (.string (bs q.1)) ∧ x.cell? ⟨B2, 1, none⟩ = some (.string (bs q.2)) ∧ Below w.heap.size w x)
          ((refine ⟨?_, ?_, ?_, ?_, ?_, ?_⟩) <;> (first | (with_reducible assumption) | ((repeat (refine Below.setCell ?_ (by simp) _)); (with_reducible exact Held.below (by assumption))) | go_keep))
          (first | (go_at_call 23; (with_reducible refine (HC.out _).mono ?_); rintro e w5 ⟨rfl, b5⟩; have I := Held.step b5 (by assumption); have q := I.all; simp only [List.forall_mem_cons] at q; obtain ⟨⟨-, s0, -⟩, ⟨-, s1, -⟩, ⟨-, s2, -⟩, ⟨-, o0, -⟩, ⟨-, o1, -⟩, ⟨-, k0, f0⟩, ⟨-, k1, f1⟩, ⟨-, k2, f2⟩, ⟨-, k3, f3⟩, ⟨-, k4, f4⟩, ⟨-, k5, f5⟩, -⟩ := q))
        go_wp2
        refine bodyPost_ret (v := prV (some ((q.1, q.2, r), y))) (by simp [results, Try.results9, go_sem, prV, tupV, k0, k1, k2, k3, k4, k5]) rfl ⟨?_, ?_⟩
        · rw [HP.out]
        · exact ((((((Held.below I).setCell (by simp) _).setCell (by simp) _).setCell (by simp) _).setCell (by simp) _).setCell (by simp) _).setCell (by simp) _
end Bond
end Go.Proofs.Ytbgbkhjcfchamaa
