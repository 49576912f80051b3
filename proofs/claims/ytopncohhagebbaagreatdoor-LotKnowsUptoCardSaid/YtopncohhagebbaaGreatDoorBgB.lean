/-
  Layer 2 (who), first part: which kind a subject is: what the document's Kind, and package who's Good, One, Set, All, Subject answer.
  Layer 3 (bond), first part: whether a tuple is good: what who.Good, bond.Good and the document's Good answer.
  Layer 2 (who): the document's Good.
  Layer 3 (bond): the document's Good.
-/
import Derived.Test.YtopncohhagebbaaGreatDoorBgA
import Derived.Test.YtopncohhagebbaaGreatDoorGgN
import Derived.Test.YtopncohhagebbaaGreatDoorRgN
import Derived.Test.YtopncohhagebbaaGreatDoorMgMem
namespace Go.Proofs.YtopncohhagebbaaGreatDoor
open Go.RowKit
namespace Who

theorem bcell {W w1 : World} (hb : Below W.heap.size W w1) : (∀ b o, b < W.heap.size → w1.cell? ⟨b, o, none⟩ = W.cell? ⟨b, o, none⟩) ∧ (∀ b o, b < W.heap.size → w1.frozen? ⟨b, o, none⟩ = W.frozen? ⟨b, o, none⟩) :=
  ⟨fun b o h => hb.cell (p := ⟨b, o, none⟩) h, fun b o h => hb.frozen (p := ⟨b, o, none⟩) h⟩
/-- What is below a block that was laid first. -/
theorem boxed {w w1 : World} {o : Obj} (hb : Below (w.alloc o).heap.size (w.alloc o) w1) : Below w.heap.size w w1 :=
  ((Below.refl _ _).alloc (Nat.le_refl _) _).trans (hb.mono (by simp))
theorem emp_true {x : ByteArray} (h : x.data.toList = []) : x.toList.isEmpty = true ∧ (x.toList == []) = true := by
  rw [Lib.toList_data, h]; exact ⟨rfl, rfl⟩
theorem emp_false {x : ByteArray} (h : x.data.toList ≠ []) : x.toList.isEmpty = false ∧ (x.toList == []) = false := by
  rw [Lib.toList_data]
  cases e : x.data.toList with
  | nil => exact absurd e h
  | cons a l => exact ⟨rfl, rfl⟩
theorem star_true {x : ByteArray} (h : x.data.toList = [42]) : (x.toList == [42]) = true := by
  rw [Lib.toList_data, h]; rfl
theorem star_false {x : ByteArray} (h : x.data.toList ≠ [42]) : (x.toList == [42]) = false := by
  rw [Lib.toList_data]
  simpa using h
set_option maxHeartbeats 1000000 in
theorem kindR_any (t i r : ByteArray) (w : World) (ht : t.size ≤ 4000000) (hi : i.size ≤ 4000000) (hr : r.size ≤ 4000000) :
    Calls Tryz.prog 24 #[.agg #[.string t, .string i, .string r]] w fun e w' => e = .returned (.int .i64 (kind t.data.toList i.data.toList r.data.toList : Nat)) ∧ Below w.heap.size w w' := by
  have h1 := fun w => Ref.name_any t w ht
  have h2 := fun w => Ref.id_any i w hi
  have h3 := fun w => Ref.name_any r w hr
  cases n1 : Gly.nameB t.data.toList with
  | false =>
    have hk : kind t.data.toList i.data.toList r.data.toList = 0 := by simp [kind, n1]
    rw [n1] at h1
    rw [hk]
    have H1 := Lib.hid h1
    clear h1 h2 h3 n1 hk
    go_enter Tryz.func24, Tryz.ntmps24
    go_wp2_with (go_at_call 25; refine (H1.out _).mono ?_; rintro e w' ⟨rfl, rfl⟩)
    go_ret
    exact ⟨rfl, boxed (Below.refl _ _)⟩
  | true =>
    rw [n1] at h1
    by_cases hs : i.data.toList = [42]
    · have s1 := star_true hs
      by_cases he : r.data.toList = []
      · have hk : kind t.data.toList i.data.toList r.data.toList = 3 := by simp [kind, n1, hs, he]
        obtain ⟨e1, e2⟩ := emp_true he
        rw [hk]
        have H1 := Lib.hid h1
        clear h1 h2 h3 n1 hk hs he
        go_enter Tryz.func24, Tryz.ntmps24
        go_wp2_with (go_at_call 25; refine (H1.out _).mono ?_; rintro e w' ⟨rfl, rfl⟩)
        go_ret
        exact ⟨rfl, boxed (Below.refl _ _)⟩
      · have hk : kind t.data.toList i.data.toList r.data.toList = 0 := by simp [kind, n1, hs, he]
        obtain ⟨e1, e2⟩ := emp_false he
        rw [hk]
        have H1 := Lib.hid h1
        clear h1 h2 h3 n1 hk hs he
        go_enter Tryz.func24, Tryz.ntmps24
        go_wp2_with (go_at_call 25; refine (H1.out _).mono ?_; rintro e w' ⟨rfl, rfl⟩)
        go_ret
        exact ⟨rfl, boxed (Below.refl _ _)⟩
    · have s1 := star_false hs
      cases n2 : Gly.idB i.data.toList with
      | false =>
        have hk : kind t.data.toList i.data.toList r.data.toList = 0 := by simp [kind, n1, n2, hs]
        rw [n2] at h2
        rw [hk]
        have H1 := Lib.hid h1
        have H2 := Lib.hid h2
        clear h1 h2 h3 n1 n2 hk hs
        go_enter Tryz.func24, Tryz.ntmps24
        go_wp2_with (go_at_call 25; refine (H1.out _).mono ?_; rintro e w' ⟨rfl, rfl⟩)
        go_wp2_with (go_at_call 56; refine (H2.out _).mono ?_; rintro e w1 ⟨rfl, b1⟩)
        go_ret
        exact ⟨rfl, boxed b1⟩
      | true =>
        rw [n2] at h2
        by_cases he : r.data.toList = []
        · have hk : kind t.data.toList i.data.toList r.data.toList = 1 := by simp [kind, n1, n2, hs, he]
          obtain ⟨e1, e2⟩ := emp_true he
          rw [hk]
          have H1 := Lib.hid h1
          have H2 := Lib.hid h2
          clear h1 h2 h3 n1 n2 hk hs he
          go_enter Tryz.func24, Tryz.ntmps24
          go_wp2_with (go_at_call 25; refine (H1.out _).mono ?_; rintro e w' ⟨rfl, rfl⟩)
          go_wp2_with (go_at_call 56; refine (H2.out _).mono ?_; rintro e w1 ⟨rfl, b1⟩; obtain ⟨hc, hf⟩ := bcell b1)
          go_ret
          exact ⟨rfl, boxed b1⟩
        · have hk : kind t.data.toList i.data.toList r.data.toList = if Gly.nameB r.data.toList then 2 else 0 := by simp [kind, n1, n2, hs, he]
          obtain ⟨e1, e2⟩ := emp_false he
          rw [hk]
          have H1 := Lib.hid h1
          have H2 := Lib.hid h2
          cases n3 : Gly.nameB r.data.toList
          all_goals
            rw [n3] at h3
            have H3 := Lib.hid h3
            clear h1 h2 h3 n1 n2 n3 hk hs he
            go_enter Tryz.func24, Tryz.ntmps24
            go_wp2_with (go_at_call 25; refine (H1.out _).mono ?_; rintro e w' ⟨rfl, rfl⟩)
            go_wp2_with (go_at_call 56; refine (H2.out _).mono ?_; rintro e w1 ⟨rfl, b1⟩; obtain ⟨hc, hf⟩ := bcell b1)
            go_wp2_with (go_at_call 25; refine (H3.out _).mono ?_; rintro e w' ⟨rfl, rfl⟩)
            go_ret
            exact ⟨rfl, boxed b1⟩

theorem one_free (t i r : ByteArray) (w : World) :
    Calls Tryz.prog 53 #[.agg #[.string t, .string i, .string r]] w fun e w' => e = .returned (.bool (oneB t.data.toList i.data.toList r.data.toList)) ∧ Below w.heap.size w w' := by
  have h1 := fun w => Gl.name_free t w
  have h2 := fun w => Gl.id_free i w
  cases n1 : Gly.nameB t.data.toList with
  | false =>
    have hk : oneB t.data.toList i.data.toList r.data.toList = false := by simp [oneB, n1]
    rw [n1] at h1
    rw [hk]
    have H1 := Lib.hid h1
    clear h1 h2 n1 hk
    go_enter Tryz.func53, Tryz.ntmps53
    go_wp2_with (go_at_call 52; refine (H1.out _).mono ?_; rintro e w1 ⟨rfl, b1⟩)
    go_ret
    exact ⟨rfl, boxed b1⟩
  | true =>
    rw [n1] at h1
    cases n2 : Gly.idB i.data.toList with
    | false =>
      have hk : oneB t.data.toList i.data.toList r.data.toList = false := by simp [oneB, n2]
      rw [n2] at h2
      rw [hk]
      have H1 := Lib.hid h1
      have H2 := Lib.hid h2
      clear h1 h2 n1 n2 hk
      go_enter Tryz.func53, Tryz.ntmps53
      go_wp2_with (go_at_call 52; refine (H1.out _).mono ?_; rintro e w1 ⟨rfl, b1⟩; obtain ⟨hc, hf⟩ := bcell b1)
      go_wp2_with (go_at_call 86; refine (H2.out _).mono ?_; rintro e w2 ⟨rfl, b2⟩)
      go_ret
      exact ⟨rfl, boxed (b1.trans (b2.mono b1.size))⟩
    | true =>
      rw [n2] at h2
      have H1 := Lib.hid h1
      have H2 := Lib.hid h2
      by_cases he : r.data.toList = []
      · have hk : oneB t.data.toList i.data.toList r.data.toList = true := by simp [oneB, n1, n2, he]
        obtain ⟨e1, e2⟩ := emp_true he
        rw [hk]
        clear h1 h2 n1 n2 hk he
        go_enter Tryz.func53, Tryz.ntmps53
        go_wp2_with (go_at_call 52; refine (H1.out _).mono ?_; rintro e w1 ⟨rfl, b1⟩; obtain ⟨hc, hf⟩ := bcell b1)
        go_wp2_with (go_at_call 86; refine (H2.out _).mono ?_; rintro e w2 ⟨rfl, b2⟩; replace b2 := b1.trans (b2.mono b1.size); clear hc hf; obtain ⟨hc, hf⟩ := bcell b2)
        go_ret
        exact ⟨rfl, boxed b2⟩
      · have hk : oneB t.data.toList i.data.toList r.data.toList = false := by simp [oneB, he]
        obtain ⟨e1, e2⟩ := emp_false he
        rw [hk]
        clear h1 h2 n1 n2 hk he
        go_enter Tryz.func53, Tryz.ntmps53
        go_wp2_with (go_at_call 52; refine (H1.out _).mono ?_; rintro e w1 ⟨rfl, b1⟩; obtain ⟨hc, hf⟩ := bcell b1)
        go_wp2_with (go_at_call 86; refine (H2.out _).mono ?_; rintro e w2 ⟨rfl, b2⟩; replace b2 := b1.trans (b2.mono b1.size); clear hc hf; obtain ⟨hc, hf⟩ := bcell b2)
        go_ret
        exact ⟨rfl, boxed b2⟩

theorem set_free (t i r : ByteArray) (w : World) :
    Calls Tryz.prog 50 #[.agg #[.string t, .string i, .string r]] w fun e w' => e = .returned (.bool (setB t.data.toList i.data.toList r.data.toList)) ∧ Below w.heap.size w w' := by
  have h1 := fun w => Gl.name_free t w
  have h2 := fun w => Gl.id_free i w
  have h3 := fun w => Gl.name_free r w
  cases n1 : Gly.nameB t.data.toList with
  | false =>
    have hk : setB t.data.toList i.data.toList r.data.toList = false := by simp [setB, n1]
    rw [n1] at h1
    rw [hk]
    have H1 := Lib.hid h1
    clear h1 h2 h3 n1 hk
    go_enter Tryz.func50, Tryz.ntmps50
    go_wp2_with (go_at_call 52; refine (H1.out _).mono ?_; rintro e w1 ⟨rfl, b1⟩)
    go_ret
    exact ⟨rfl, boxed b1⟩
  | true =>
    rw [n1] at h1
    cases n2 : Gly.idB i.data.toList with
    | false =>
      have hk : setB t.data.toList i.data.toList r.data.toList = false := by simp [setB, n2]
      rw [n2] at h2
      rw [hk]
      have H1 := Lib.hid h1
      have H2 := Lib.hid h2
      clear h1 h2 h3 n1 n2 hk
      go_enter Tryz.func50, Tryz.ntmps50
      go_wp2_with fail
      refine (H1.out _).mono ?_
      rintro e w1 ⟨rfl, b1⟩
      obtain ⟨hc, hf⟩ := bcell b1
      go_wp2_with (go_at_call 86; refine (H2.out _).mono ?_; rintro e w2 ⟨rfl, b2⟩)
      go_ret
      exact ⟨rfl, boxed (b1.trans (b2.mono b1.size))⟩
    | true =>
      rw [n2] at h2
      have hk : setB t.data.toList i.data.toList r.data.toList = Gly.nameB r.data.toList := by simp [setB, n1, n2]
      rw [hk]
      have H1 := Lib.hid h1
      have H2 := Lib.hid h2
      cases n3 : Gly.nameB r.data.toList
      all_goals
        rw [n3] at h3
        have H3 := Lib.hid h3
        clear h1 h2 h3 n1 n2 n3 hk
        go_enter Tryz.func50, Tryz.ntmps50
        go_wp2_with fail
        refine (H1.out _).mono ?_
        rintro e w1 ⟨rfl, b1⟩
        obtain ⟨hc, hf⟩ := bcell b1
        go_wp2_with fail
        refine (H2.out _).mono ?_
        rintro e w2 ⟨rfl, b2⟩
        replace b2 := b1.trans (b2.mono b1.size)
        clear hc hf
        obtain ⟨hc, hf⟩ := bcell b2
        go_wp2_with fail
        refine (H3.out _).mono ?_
        rintro e w3 ⟨rfl, b3⟩
        go_wp2
        go_ret
        exact ⟨rfl, boxed (b2.trans (b3.mono b2.size))⟩

theorem all_free (t i r : ByteArray) (w : World) :
    Calls Tryz.prog 83 #[.agg #[.string t, .string i, .string r]] w fun e w' => e = .returned (.bool (allB t.data.toList i.data.toList r.data.toList)) ∧ Below w.heap.size w w' := by
  have h1 := fun w => Gl.name_free t w
  cases n1 : Gly.nameB t.data.toList with
  | false =>
    have hk : allB t.data.toList i.data.toList r.data.toList = false := by simp [allB, n1]
    rw [n1] at h1
    rw [hk]
    have H1 := Lib.hid h1
    clear h1 n1 hk
    go_enter Tryz.func83, Tryz.ntmps83
    go_wp2_with (go_at_call 52; refine (H1.out _).mono ?_; rintro e w1 ⟨rfl, b1⟩)
    go_ret
    exact ⟨rfl, boxed b1⟩
  | true =>
    rw [n1] at h1
    have H1 := Lib.hid h1
    by_cases hs : i.data.toList = [42]
    · have s1 := star_true hs
      by_cases he : r.data.toList = []
      · have hk : allB t.data.toList i.data.toList r.data.toList = true := by simp [allB, n1, hs, he]
        obtain ⟨e1, e2⟩ := emp_true he
        rw [hk]
        clear h1 n1 hk he hs
        go_enter Tryz.func83, Tryz.ntmps83
        go_wp2_with (go_at_call 52; refine (H1.out _).mono ?_; rintro e w1 ⟨rfl, b1⟩; obtain ⟨hc, hf⟩ := bcell b1)
        go_ret
        exact ⟨rfl, boxed b1⟩
      · have hk : allB t.data.toList i.data.toList r.data.toList = false := by simp [allB, he]
        obtain ⟨e1, e2⟩ := emp_false he
        rw [hk]
        clear h1 n1 hk he hs
        go_enter Tryz.func83, Tryz.ntmps83
        go_wp2_with (go_at_call 52; refine (H1.out _).mono ?_; rintro e w1 ⟨rfl, b1⟩; obtain ⟨hc, hf⟩ := bcell b1)
        go_ret
        exact ⟨rfl, boxed b1⟩
    · have s1 := star_false hs
      have hk : allB t.data.toList i.data.toList r.data.toList = false := by simp [allB, hs]
      rw [hk]
      clear h1 n1 hk hs
      go_enter Tryz.func83, Tryz.ntmps83
      go_wp2_with (go_at_call 52; refine (H1.out _).mono ?_; rintro e w1 ⟨rfl, b1⟩; obtain ⟨hc, hf⟩ := bcell b1)
      go_ret
      exact ⟨rfl, boxed b1⟩

theorem subj_free (t i r : ByteArray) (w : World) :
    Calls Tryz.prog 75 #[.agg #[.string t, .string i, .string r]] w fun e w' => e = .returned (.bool (subjB t.data.toList i.data.toList r.data.toList)) ∧ Below w.heap.size w w' := by
  have h1 := fun w => one_free t i r w
  have h2 := fun w => set_free t i r w
  have h3 := fun w => all_free t i r w
  have hk : subjB t.data.toList i.data.toList r.data.toList = (oneB t.data.toList i.data.toList r.data.toList || setB t.data.toList i.data.toList r.data.toList || allB t.data.toList i.data.toList r.data.toList) := rfl
  rw [hk]
  clear hk
  cases n1 : oneB t.data.toList i.data.toList r.data.toList with
  | true =>
    rw [n1] at h1
    have H1 := Lib.hid h1
    clear h1 h2 h3 n1
    go_enter Tryz.func75, Tryz.ntmps75
    go_wp2_with (go_at_call 53; refine (H1.out _).mono ?_; rintro e w1 ⟨rfl, b1⟩)
    go_ret
    exact ⟨by simp, boxed b1⟩
  | false =>
    rw [n1] at h1
    cases n2 : setB t.data.toList i.data.toList r.data.toList with
    | true =>
      rw [n2] at h2
      have H1 := Lib.hid h1
      have H2 := Lib.hid h2
      clear h1 h2 h3 n1 n2
      go_enter Tryz.func75, Tryz.ntmps75
      go_wp2_with (go_at_call 53; refine (H1.out _).mono ?_; rintro e w1 ⟨rfl, b1⟩; obtain ⟨hc, hf⟩ := bcell b1)
      go_wp2_with (go_at_call 50; refine (H2.out _).mono ?_; rintro e w2 ⟨rfl, b2⟩)
      go_ret
      exact ⟨by simp, boxed (b1.trans (b2.mono b1.size))⟩
    | false =>
      rw [n2] at h2
      have H1 := Lib.hid h1
      have H2 := Lib.hid h2
      cases n3 : allB t.data.toList i.data.toList r.data.toList
      all_goals
        rw [n3] at h3
        have H3 := Lib.hid h3
        clear h1 h2 h3 n1 n2 n3
        go_enter Tryz.func75, Tryz.ntmps75
        go_wp2_with (go_at_call 53; refine (H1.out _).mono ?_; rintro e w1 ⟨rfl, b1⟩; obtain ⟨hc, hf⟩ := bcell b1)
        go_wp2_with (go_at_call 50; refine (H2.out _).mono ?_; rintro e w2 ⟨rfl, b2⟩; replace b2 := b1.trans (b2.mono b1.size); clear hc hf; obtain ⟨hc, hf⟩ := bcell b2)
        go_wp2_with (go_at_call 83; refine (H3.out _).mono ?_; rintro e w3 ⟨rfl, b3⟩)
        go_ret
        exact ⟨by simp, boxed (b2.trans (b3.mono b2.size))⟩
theorem one_any (t i r : ByteArray) (w : World) (_ht : t.size ≤ 4000000) (_hi : i.size ≤ 4000000) :
    Calls Tryz.prog 53 #[.agg #[.string t, .string i, .string r]] w fun e w' => e = .returned (.bool (oneB t.data.toList i.data.toList r.data.toList)) ∧ Below w.heap.size w w' := one_free t i r w
theorem subj_any (t i r : ByteArray) (w : World) (_ht : t.size ≤ 4000000) (_hi : i.size ≤ 4000000) (_hr : r.size ≤ 4000000) :
    Calls Tryz.prog 75 #[.agg #[.string t, .string i, .string r]] w fun e w' => e = .returned (.bool (subjB t.data.toList i.data.toList r.data.toList)) ∧ Below w.heap.size w w' := subj_free t i r w
end Who
end Go.Proofs.YtopncohhagebbaaGreatDoor

namespace Go.Proofs.YtopncohhagebbaaGreatDoor
open Go.RowKit
namespace Bond
open Who (bcell boxed Held)

/-- A tuple as a value. -/
def tupV (t i r a b c : ByteArray) : Value := .agg #[.string t, .string i, .string r, .string a, .string b, .string c]

theorem Held.one6 (w : World) (T : TypeId) (a0 a1 a2 a3 a4 a5 : Value) :
    Held w [(⟨w.heap.size, 0, none⟩, a0), (⟨w.heap.size, 1, none⟩, a1), (⟨w.heap.size, 2, none⟩, a2), (⟨w.heap.size, 3, none⟩, a3), (⟨w.heap.size, 4, none⟩, a4), (⟨w.heap.size, 5, none⟩, a5)] (w.alloc (.cells #[a0, a1, a2, a3, a4, a5] T)) := by
  refine ⟨((Below.refl _ _).alloc (Nat.le_refl _) _), ?_⟩
  simp only [List.forall_mem_cons]
  simp
theorem bne_pos : ∀ n : Nat, (n != 0) = decide (0 < n)
  | 0 => rfl
  | n + 1 => by simp

theorem goodO_free (t i : ByteArray) (w : World) :
    Calls Tryz.prog 51 #[.agg #[.string t, .string i]] w fun e w' => e = .returned (.bool (Gly.nameB t.data.toList && Gly.idB i.data.toList)) ∧ Below w.heap.size w w' := by
  have h1 := fun w => Gl.name_free t w
  have h2 := fun w => Gl.id_free i w
  cases n1 : Gly.nameB t.data.toList with
  | false =>
    rw [n1] at h1
    have H1 := Lib.hid h1
    clear h1 h2 n1
    go_enter Tryz.func51, Tryz.ntmps51
    go_wp2_with (go_at_call 52; refine (H1.out _).mono ?_; rintro e w1 ⟨rfl, b1⟩)
    go_ret
    exact ⟨rfl, boxed b1⟩
  | true =>
    rw [n1] at h1
    have H1 := Lib.hid h1
    have H2 := Lib.hid h2
    clear h1 h2 n1
    generalize Gly.idB i.data.toList = n2 at *
    go_enter Tryz.func51, Tryz.ntmps51
    go_wp2_with (go_at_call 52; refine (H1.out _).mono ?_; rintro e w1 ⟨rfl, b1⟩; obtain ⟨hc, hf⟩ := bcell b1)
    go_wp2_with (go_at_call 86; refine (H2.out _).mono ?_; rintro e w2 ⟨rfl, b2⟩)
    go_ret
    exact ⟨rfl, boxed (b1.trans (b2.mono b1.size))⟩

theorem good_free (t i r a b c : ByteArray) (w : World) :
    Calls Tryz.prog 44 #[tupV t i r a b c] w fun e w' => e = .returned (.bool (goodB (t.data.toList, i.data.toList, r.data.toList) (a.data.toList, b.data.toList, c.data.toList))) ∧ Below w.heap.size w w' := by
  have h1 := fun w => goodO_free t i w
  have h2 := fun w => Gl.name_free r w
  have h3 := fun w => Who.subj_free a b c w
  rw [show Who.subjB a.data.toList b.data.toList c.data.toList = decide (0 < kind3 (a.data.toList, b.data.toList, c.data.toList)) by rw [Who.subj_eq]; exact bne_pos _] at h3
  unfold goodB
  dsimp only
  generalize decide (0 < kind3 (a.data.toList, b.data.toList, c.data.toList)) = n3 at *
  generalize Gly.nameB r.data.toList = n2 at *
  generalize (Gly.nameB t.data.toList && Gly.idB i.data.toList) = n1 at *
  unfold tupV
  have H3 := Lib.hid h3
  clear h3
  cases n1 with
  | false =>
    have H1 := Lib.hid h1
    clear h1 h2
    go_enter Tryz.func44, Tryz.ntmps44
    go_wp2_with (go_at_call 51; refine (H1.out _).mono ?_; rintro e w1 ⟨rfl, b1⟩)
    go_ret
    exact ⟨rfl, boxed b1⟩
  | true =>
    have H1 := Lib.hid h1
    clear h1
    cases n2 with
    | false =>
      have H2 := Lib.hid h2
      clear h2
      go_enter Tryz.func44, Tryz.ntmps44
      go_wp2_with (go_at_call 51; refine (H1.out _).mono ?_; rintro e w1 ⟨rfl, b1⟩; obtain ⟨hc, hf⟩ := bcell b1)
      go_wp2_with (go_at_call 52; refine (H2.out _).mono ?_; rintro e w2 ⟨rfl, b2⟩)
      go_ret
      exact ⟨rfl, boxed (b1.trans (b2.mono b1.size))⟩
    | true =>
      have H2 := Lib.hid h2
      clear h2
      go_enter Tryz.func44, Tryz.ntmps44
      go_wp2_with fail
      refine (H1.out _).mono ?_
      rintro e w1 ⟨rfl, b1⟩
      have I1 := Held.step b1 (Held.one6 w _ _ _ _ _ _ _)
      have q := I1.all
      simp only [List.forall_mem_cons] at q
      obtain ⟨⟨-, k0, -⟩, ⟨-, k1, -⟩, ⟨-, k2, -⟩, ⟨-, k3, -⟩, ⟨-, k4, -⟩, ⟨-, k5, -⟩, -⟩ := q
      clear b1
      go_wp2_with fail
      refine (H2.out _).mono ?_
      rintro e w2 ⟨rfl, b2⟩
      have I2 := Held.step b2 I1
      have q := I2.all
      simp only [List.forall_mem_cons] at q
      clear b2 k0 k1 k2 k3 k4 k5
      obtain ⟨⟨-, k0, -⟩, ⟨-, k1, -⟩, ⟨-, k2, -⟩, ⟨-, k3, -⟩, ⟨-, k4, -⟩, ⟨-, k5, -⟩, -⟩ := q
      go_wp2_with fail
      refine (H3.out _).mono ?_
      rintro e w3 ⟨rfl, b3⟩
      go_wp2
      go_ret
      exact ⟨rfl, (Held.step b3 I2).below⟩
end Bond
end Go.Proofs.YtopncohhagebbaaGreatDoor

namespace Go.Proofs.YtopncohhagebbaaGreatDoor
open Go.RowKit
namespace Who

theorem goodR_any (t i : ByteArray) (w : World) (ht : t.size ≤ 4000000) (hi : i.size ≤ 4000000) :
    Calls Tryz.prog 55 #[.agg #[.string t, .string i]] w fun e w' => e = .returned (.bool (Gly.nameB t.data.toList && Gly.idB i.data.toList)) ∧ Below w.heap.size w w' := by
  have h1 := fun w => Ref.name_any t w ht
  have h2 := fun w => Ref.id_any i w hi
  cases n1 : Gly.nameB t.data.toList with
  | false =>
    rw [n1] at h1
    have H1 := Lib.hid h1
    clear h1 h2 n1
    go_enter Tryz.func55, Tryz.ntmps55
    go_wp2_with (go_at_call 25; refine (H1.out _).mono ?_; rintro e w1 ⟨rfl, rfl⟩)
    go_ret
    exact ⟨rfl, boxed (Below.refl _ _)⟩
  | true =>
    rw [n1] at h1
    have H1 := Lib.hid h1
    cases n2 : Gly.idB i.data.toList
    all_goals
      rw [n2] at h2
      have H2 := Lib.hid h2
      clear h1 h2 n1 n2
      go_enter Tryz.func55, Tryz.ntmps55
      go_wp2_with (go_at_call 25; refine (H1.out _).mono ?_; rintro e w1 ⟨rfl, rfl⟩)
      go_wp2_with (go_at_call 56; refine (H2.out _).mono ?_; rintro e w1 ⟨rfl, b1⟩)
      go_ret
      exact ⟨rfl, boxed b1⟩
end Who
end Go.Proofs.YtopncohhagebbaaGreatDoor

namespace Go.Proofs.YtopncohhagebbaaGreatDoor
open Go.RowKit
namespace Bond
open Who (Held kindR_any)

theorem goodR_any (t i r a b c : ByteArray) (w : World) (ht : t.size ≤ 4000000) (hi : i.size ≤ 4000000) (hr : r.size ≤ 4000000) (ha : a.size ≤ 4000000) (hb : b.size ≤ 4000000) (hc : c.size ≤ 4000000) :
    Calls Tryz.prog 42 #[tupV t i r a b c] w fun e w' => e = .returned (.bool (goodB (t.data.toList, i.data.toList, r.data.toList) (a.data.toList, b.data.toList, c.data.toList))) ∧ Below w.heap.size w w' := by
  have h1 := fun w => Ref.name_any t w ht
  have h2 := fun w => Ref.id_any i w hi
  have h3 := fun w => Ref.name_any r w hr
  have h4 := fun w => kindR_any a b c w ha hb hc
  unfold goodB kind3
  dsimp only
  generalize Who.kind a.data.toList b.data.toList c.data.toList = k at *
  generalize Gly.nameB r.data.toList = n3 at *
  generalize Gly.idB i.data.toList = n2 at *
  generalize Gly.nameB t.data.toList = n1 at *
  unfold tupV
  have H4 := Lib.hid h4
  clear h4
  cases n1 with
  | false =>
    have H1 := Lib.hid h1
    clear h1 h2 h3
    go_enter Tryz.func42, Tryz.ntmps42
    go_wp2_with fail
    refine (H1.out _).mono ?_
    rintro e w1 ⟨rfl, rfl⟩
    go_wp2
    go_ret
    exact ⟨rfl, Who.boxed (Below.refl _ _)⟩
  | true =>
    have H1 := Lib.hid h1
    clear h1
    cases n2 with
    | false =>
      have H2 := Lib.hid h2
      clear h2 h3
      go_enter Tryz.func42, Tryz.ntmps42
      go_wp2_with fail
      refine (H1.out _).mono ?_
      rintro e w1 ⟨rfl, rfl⟩
      go_wp2_with fail
      refine (H2.out _).mono ?_
      rintro e w2 ⟨rfl, b2⟩
      go_wp2
      go_ret
      exact ⟨rfl, Who.boxed b2⟩
    | true =>
      have H2 := Lib.hid h2
      clear h2
      cases n3 with
      | false =>
        have H3 := Lib.hid h3
        clear h3
        go_enter Tryz.func42, Tryz.ntmps42
        go_wp2_with fail
        refine (H1.out _).mono ?_
        rintro e w1 ⟨rfl, rfl⟩
        go_wp2_with fail
        refine (H2.out _).mono ?_
        rintro e w2 ⟨rfl, b2⟩
        have I2 := Held.step b2 (Held.one6 w _ _ _ _ _ _ _)
        have q := I2.all
        simp only [List.forall_mem_cons] at q
        clear b2
        obtain ⟨⟨-, k0, -⟩, ⟨-, k1, -⟩, ⟨-, k2, -⟩, ⟨-, k3, -⟩, ⟨-, k4, -⟩, ⟨-, k5, -⟩, -⟩ := q
        go_wp2_with fail
        refine (H3.out _).mono ?_
        rintro e w3 ⟨rfl, rfl⟩
        go_wp2
        go_ret
        exact ⟨rfl, I2.below⟩
      | true =>
        have H3 := Lib.hid h3
        clear h3
        go_enter Tryz.func42, Tryz.ntmps42
        go_wp2_with fail
        refine (H1.out _).mono ?_
        rintro e w1 ⟨rfl, rfl⟩
        go_wp2_with fail
        refine (H2.out _).mono ?_
        rintro e w2 ⟨rfl, b2⟩
        have I2 := Held.step b2 (Held.one6 w _ _ _ _ _ _ _)
        have q := I2.all
        simp only [List.forall_mem_cons] at q
        clear b2
        obtain ⟨⟨-, k0, -⟩, ⟨-, k1, -⟩, ⟨-, k2, -⟩, ⟨-, k3, -⟩, ⟨-, k4, -⟩, ⟨-, k5, -⟩, -⟩ := q
        go_wp2_with fail
        refine (H3.out _).mono ?_
        rintro e w3 ⟨rfl, rfl⟩
        go_wp2_with fail
        refine (H4.out _).mono ?_
        rintro e w4 ⟨rfl, b4⟩
        go_wp2
        go_ret
        exact ⟨by simp, (Held.step b4 I2).below⟩
end Bond
end Go.Proofs.YtopncohhagebbaaGreatDoor
