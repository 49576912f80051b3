/-
  Plain mathematics under the statements of layer 3 (bond): texts of tuples, how they are cut and read; what a filter's field matches. No program is named here.
-/
import Derived.Test.YticcldohgbpcbaaDoorWhoPure
namespace Go.Proofs.YticcldohgbpcbaaDoor.Bond
open Go Gly
open Who (cut cut_none cut_some cut_of kind read text readO read_text text_read kind_good name_nil id_nil nameB_bytes idB_bytes)

/-- The pieces of a text: ahead of its first #, from there to the next @, and behind. -/
def sp (l : List UInt8) : List UInt8 × List UInt8 × List UInt8 :=
  match cut 35 l with
  | none => (l, [], [])
  | some (t, m) => match cut 64 m with
    | none => (t, m, [])
    | some (i, r) => (t, i, r)
theorem sp_none {l : List UInt8} (h : cut 35 l = none) : sp l = (l, [], []) := by rw [sp, h]
theorem sp_one {l t m : List UInt8} (h : cut 35 l = some (t, m)) (h2 : cut 64 m = none) : sp l = (t, m, []) := by simp only [sp, h, h2]
theorem sp_two {l t m i r : List UInt8} (h : cut 35 l = some (t, m)) (h2 : cut 64 m = some (i, r)) : sp l = (t, i, r) := by simp only [sp, h, h2]

abbrev L3 := List UInt8 × List UInt8 × List UInt8
def text3 (y : L3) : List UInt8 := text y.1 y.2.1 y.2.2
def kind3 (y : L3) : Nat := kind y.1 y.2.1 y.2.2
/-- A tuple's text. -/
def btext (x y : L3) : List UInt8 := x.1 ++ 58 :: (x.2.1 ++ 35 :: (x.2.2 ++ 64 :: text3 y))
/-- Is a tuple good? -/
def goodB (x y : L3) : Bool := nameB x.1 && idB x.2.1 && nameB x.2.2 && decide (0 < kind3 y)

/-- A text's tuple, as the document has it. -/
def rd (l : List UInt8) : Option (L3 × L3) :=
  match cut 64 l with
  | none => none
  | some (a, b) => match read a, read b with
    | some x, some y => if kind3 x = 2 then some (x, y) else none
    | _, _ => none
/-- A text's tuple, as the program has it. -/
def pr (l : List UInt8) : Option (L3 × L3) :=
  match readO (sp l).1, read (sp l).2.2 with
  | some o, some y => if nameB (sp l).2.1 then some ((o.1, o.2, (sp l).2.1), y) else none
  | _, _ => none

theorem kind_set {t i r : List UInt8} : kind t i r = 2 ↔ nameB t = true ∧ idB i = true ∧ nameB r = true := by
  have h := Who.set_eq t i r
  rw [Who.setB] at h
  constructor
  · intro e
    rw [e] at h
    simpa [and_assoc] using h
  · rintro ⟨a, b, c⟩
    rw [a, b, c] at h
    simpa using h.symm
theorem kind_one {t i r : List UInt8} : kind t i r = 1 ↔ nameB t = true ∧ idB i = true ∧ r = [] := by
  have h := Who.one_eq t i r
  rw [Who.oneB] at h
  constructor
  · intro e
    rw [e] at h
    simpa [and_assoc] using h
  · rintro ⟨a, b, rfl⟩
    rw [a, b] at h
    simpa using h.symm
theorem good_iff {x y : L3} : goodB x y = true ↔ kind3 x = 2 ∧ kind3 y ≠ 0 := by
  rw [kind3, kind_set, goodB]
  simp [and_assoc, Nat.pos_iff_ne_zero]
theorem name_ne {r : List UInt8} (h : nameB r = true) : r ≠ [] := fun e => by rw [e, name_nil] at h; cases h
theorem text_set {x : L3} (h : nameB x.2.2 = true) : text3 x = x.1 ++ 58 :: (x.2.1 ++ 35 :: x.2.2) := by
  rw [text3, text, if_neg (name_ne h)]
theorem no_name {t : List UInt8} (h : nameB t = true) (c : UInt8) (hc : c = 35 ∨ c = 64 ∨ c = 58) : c ∉ t := fun hm => by
  have := nameB_bytes h c hm
  rcases hc with rfl | rfl | rfl <;> simp at this
theorem no_id {i : List UInt8} (h : idB i = true) (c : UInt8) (hc : c = 35 ∨ c = 64 ∨ c = 58) : c ∉ i := fun hm => by
  rcases hc with rfl | rfl | rfl
  · exact idB_bytes h 35 (by decide) (by decide) 35 hm rfl
  · exact idB_bytes h 64 (by decide) (by decide) 64 hm rfl
  · exact idB_bytes h 58 (by decide) (by decide) 58 hm rfl

theorem rd_none {l : List UInt8} (h : cut 64 l = none) : rd l = none := by rw [rd, h]
theorem rd_some {l a b : List UInt8} (h : cut 64 l = some (a, b)) : rd l = match read a, read b with
    | some x, some y => if kind3 x = 2 then some (x, y) else none
    | _, _ => none := by rw [rd, h]

theorem rd_of {l : List UInt8} {x y : L3} (h : rd l = some (x, y)) : goodB x y = true ∧ l = btext x y := by
  cases hc : cut 64 l with
  | none => rw [rd_none hc] at h; cases h
  | some p =>
    obtain ⟨a, b⟩ := p
    obtain ⟨e, _⟩ := cut_of hc
    rw [rd_some hc] at h
    cases ha : read a with
    | none => rw [ha] at h; cases h
    | some x' =>
      cases hb : read b with
      | none => rw [ha, hb] at h; cases h
      | some y' =>
        rw [ha, hb] at h
        dsimp only at h
        by_cases hk : kind3 x' = 2
        · rw [if_pos hk] at h
          obtain ⟨rfl, rfl⟩ := Prod.mk.inj (Option.some.inj h)
          obtain ⟨t1, i1, r1⟩ := x'
          obtain ⟨t2, i2, r2⟩ := y'
          obtain ⟨e1, _⟩ := read_text ha
          obtain ⟨e2, k2⟩ := read_text hb
          refine ⟨good_iff.2 ⟨hk, k2⟩, ?_⟩
          have hs := text_set (x := (t1, i1, r1)) (kind_set.1 hk).2.2
          rw [e, ← e1, btext, show b = text3 (t2, i2, r2) from e2.symm, show text t1 i1 r1 = text3 (t1, i1, r1) from rfl, hs]
          simp
        · rw [if_neg hk] at h; cases h
theorem rd_text {x y : L3} (h : goodB x y = true) : rd (btext x y) = some (x, y) := by
  obtain ⟨h1, h2⟩ := good_iff.1 h
  obtain ⟨t1, i1, r1⟩ := x
  obtain ⟨t2, i2, r2⟩ := y
  obtain ⟨n1, n2, n3⟩ := kind_set.1 h1
  have hc : cut 64 (btext (t1, i1, r1) (t2, i2, r2)) = some (text3 (t1, i1, r1), text3 (t2, i2, r2)) := by
    rw [text_set (x := (t1, i1, r1)) n3, btext, show t1 ++ 58 :: (i1 ++ 35 :: (r1 ++ 64 :: text3 (t2, i2, r2))) = (t1 ++ 58 :: (i1 ++ 35 :: r1)) ++ 64 :: text3 (t2, i2, r2) by simp]
    refine cut_some _ ?_
    have a1 := no_name n1 64 (by simp)
    have a2 := no_id n2 64 (by simp)
    have a3 := no_name n3 64 (by simp)
    simp [a1, a2, a3]
  have r1' : read (text3 (t1, i1, r1)) = some (t1, i1, r1) := text_read (by rw [show kind t1 i1 r1 = 2 from h1]; decide)
  have r2' : read (text3 (t2, i2, r2)) = some (t2, i2, r2) := text_read h2
  rw [rd_some hc, r1', r2']
  exact if_pos h1

theorem readO_of {l : List UInt8} {t i : List UInt8} (h : readO l = some (t, i)) : nameB t = true ∧ idB i = true ∧ l = t ++ 58 :: i := by
  rw [readO] at h
  cases hr : read l with
  | none => rw [hr] at h; cases h
  | some z =>
    obtain ⟨t', i', r'⟩ := z
    rw [hr] at h
    dsimp only at h
    by_cases hk : kind t' i' r' = 1
    · rw [if_pos hk] at h
      obtain ⟨rfl, rfl⟩ := Prod.mk.inj (Option.some.inj h)
      obtain ⟨n1, n2, rfl⟩ := kind_one.1 hk
      refine ⟨n1, n2, ?_⟩
      have := (read_text hr).1
      rw [text, if_pos rfl, List.append_nil] at this
      exact this.symm
    · rw [if_neg hk] at h; cases h
theorem readO_text {t i : List UInt8} (h1 : nameB t = true) (h2 : idB i = true) : readO (t ++ 58 :: i) = some (t, i) := by
  have hk : kind t i [] = 1 := kind_one.2 ⟨h1, h2, rfl⟩
  have hr := text_read (t := t) (i := i) (r := []) (by omega)
  rw [text, if_pos rfl, List.append_nil] at hr
  rw [readO, hr]
  exact if_pos hk
theorem read_nil : read [] = none := rfl

theorem pr_of {l : List UInt8} {x y : L3} (h : pr l = some (x, y)) : goodB x y = true ∧ l = btext x y := by
  have hsp : ∃ o r s, sp l = (o, r, s) := ⟨_, _, _, rfl⟩
  obtain ⟨o, r, s, hs⟩ := hsp
  rw [pr, hs] at h
  dsimp only at h
  cases ho : readO o with
  | none => rw [ho] at h; cases h
  | some q =>
    cases hb : read s with
    | none => rw [ho, hb] at h; cases h
    | some y' =>
      rw [ho, hb] at h
      dsimp only at h
      by_cases hn : nameB r = true
      · rw [if_pos hn] at h
        obtain ⟨rfl, rfl⟩ := Prod.mk.inj (Option.some.inj h)
        obtain ⟨n1, n2, e1⟩ := readO_of (t := q.1) (i := q.2) ho
        obtain ⟨t2, i2, r2⟩ := y'
        obtain ⟨e2, k2⟩ := read_text hb
        refine ⟨good_iff.2 ⟨kind_set.2 ⟨n1, n2, hn⟩, k2⟩, ?_⟩
        cases hc : cut 35 l with
        | none =>
          rw [sp_none hc] at hs
          obtain ⟨rfl, e3⟩ := Prod.mk.inj hs
          obtain ⟨rfl, rfl⟩ := Prod.mk.inj e3
          rw [name_nil] at hn; cases hn
        | some p =>
          obtain ⟨t, m⟩ := p
          obtain ⟨e3, _⟩ := cut_of hc
          cases hc2 : cut 64 m with
          | none =>
            rw [sp_one hc hc2] at hs
            obtain ⟨rfl, e4⟩ := Prod.mk.inj hs
            obtain ⟨rfl, rfl⟩ := Prod.mk.inj e4
            rw [read_nil] at hb; cases hb
          | some p2 =>
            obtain ⟨i, r'⟩ := p2
            obtain ⟨e4, _⟩ := cut_of hc2
            rw [sp_two hc hc2] at hs
            obtain ⟨rfl, e5⟩ := Prod.mk.inj hs
            obtain ⟨rfl, rfl⟩ := Prod.mk.inj e5
            rw [e3, e4, e1, btext, show text3 (t2, i2, r2) = text t2 i2 r2 from rfl, e2]
            simp
      · rw [if_neg hn] at h; cases h
theorem pr_text {x y : L3} (h : goodB x y = true) : pr (btext x y) = some (x, y) := by
  obtain ⟨h1, h2⟩ := good_iff.1 h
  obtain ⟨t1, i1, r1⟩ := x
  obtain ⟨t2, i2, r2⟩ := y
  obtain ⟨n1, n2, n3⟩ := kind_set.1 h1
  dsimp only at n1 n2 n3
  have hc : cut 35 (btext (t1, i1, r1) (t2, i2, r2)) = some (t1 ++ 58 :: i1, r1 ++ 64 :: text3 (t2, i2, r2)) := by
    rw [btext, show t1 ++ 58 :: (i1 ++ 35 :: (r1 ++ 64 :: text3 (t2, i2, r2))) = (t1 ++ 58 :: i1) ++ 35 :: (r1 ++ 64 :: text3 (t2, i2, r2)) by simp]
    refine cut_some _ ?_
    have a1 := no_name n1 35 (by simp)
    have a2 := no_id n2 35 (by simp)
    simp [a1, a2]
  have hc2 : cut 64 (r1 ++ 64 :: text3 (t2, i2, r2)) = some (r1, text3 (t2, i2, r2)) := cut_some _ (no_name n3 64 (by simp))
  have r2' : read (text3 (t2, i2, r2)) = some (t2, i2, r2) := text_read h2
  rw [pr, sp_two hc hc2]
  dsimp only
  rw [readO_text n1 n2, r2']
  exact if_pos n3
/-- The program reads as the document does. -/
theorem pr_rd (l : List UInt8) : pr l = rd l := by
  cases h : rd l with
  | some z =>
    obtain ⟨g, e⟩ := rd_of (x := z.1) (y := z.2) h
    rw [e]
    exact pr_text g
  | none =>
    cases h2 : pr l with
    | none => rfl
    | some z =>
      obtain ⟨g, e⟩ := pr_of (x := z.1) (y := z.2) h2
      rw [e, rd_text g] at h
      cases h
end Go.Proofs.YticcldohgbpcbaaDoor.Bond
