/-
  Plain mathematics of layer 7 (grammar): what each part of the grammar reads of a list of tokens, and where it stops.
-/
import Derived.Test.YtbphmaoomnocmaaDoorSgN
import Derived.Test.YtbphmaoomnocmaaDoorTrPure
namespace Go.Proofs.YtbphmaoomnocmaaDoor
open Go.RowKit
namespace Gr
open Tr (Nd none0)
open Sg (Tok kt)

/-- Bytes as text. -/
def txt (l : List Nat) : ByteArray := ⟨(l.map Nat.toUInt8).toArray⟩
/-- A token without its place. -/
abbrev K := Int × List Nat
/-- What is left to be read, and the error. -/
structure St where
  rest : List K
  err : Nat
def headK : List K → Int
  | [] => 0
  | t :: _ => t.1
def next (s : St) : Int := if s.err = 0 then headK s.rest else 0
def tl (s : St) : St := ⟨s.rest.tail, s.err⟩
def fail (s : St) (e : Nat) : St := if s.err = 0 then ⟨s.rest, e⟩ else s
def need (s : St) (k : Int) : St := if next s = k then tl s else fail s 11
def headT : List K → ByteArray
  | [] => none0
  | t :: _ => txt t.2
def word (s : St) : ByteArray × St := if next s = 1 then (headT s.rest, tl s) else (none0, fail s 11)
section
variable {α : Type}
def each (one : St → α × St) (k : Int) : Nat → St → List α × St
  | 0, s => ([], s)
  | f + 1, s => if next s = k then ((one (tl s)).1 :: (each one k f (one (tl s)).2).1, (each one k f (one (tl s)).2).2) else ([], s)
def eachs (one : St → α × St) (k : Int) (s : St) : List α × St := each one k s.rest.length s
def list (one : St → α × St) (k : Int) (s : St) : List α × St := ((one s).1 :: (eachs one k (one s).2).1, (eachs one k (one s).2).2)
end
def joined (k : Int) : List Nd → Nd
  | [n] => n
  | l => .mk k none0 none0 l
abbrev P := St → Nd × St
def atomOf (br : P) (s : St) : Nd × St :=
  if next s = 4 then (.mk 1 none0 none0 [], tl s)
  else if next s = 40 then br s
  else if next (word s).2 = 5 then (.mk 3 (word s).1 (word (tl (word s).2)).1 [], (word (tl (word s).2)).2)
  else (.mk 2 (word s).1 none0 [], (word s).2)
def lessOf (br : P) (s : St) : Nd × St :=
  if next (atomOf br s).2 = 45 then (.mk 6 none0 none0 [(atomOf br s).1, (atomOf br (tl (atomOf br s).2)).1], (atomOf br (tl (atomOf br s).2)).2) else atomOf br s
def meetOf (br : P) (s : St) : Nd × St := (joined 5 (list (lessOf br) 38 s).1, (list (lessOf br) 38 s).2)
def unionOf (br : P) (s : St) : Nd × St := (joined 4 (list (meetOf br) 124 s).1, (list (meetOf br) 124 s).2)
/-- Brackets, so many of which may still be opened. -/
def brk : Nat → P
  | 0, s => (.mk 0 none0 none0 [], fail s 12)
  | d + 1, s => ((unionOf (brk d) (need s 40)).1, need (unionOf (brk d) (need s 40)).2 41)
structure Al where
  ty : ByteArray
  rel : ByteArray
  wild : Bool
structure Rl where
  name : ByteArray
  allow : List Al
  expr : Nd
structure Ty where
  name : ByteArray
  rels : List Rl
def allow (s : St) : Al × St :=
  if next (word s).2 = 35 then (⟨(word s).1, (word (tl (word s).2)).1, false⟩, (word (tl (word s).2)).2)
  else if next (word s).2 = 58 then (⟨(word s).1, none0, true⟩, need (tl (word s).2) 42)
  else (⟨(word s).1, none0, false⟩, (word s).2)
def allows (s : St) : List Al × St :=
  if next s = 91 then ((list allow 44 (tl s)).1, need (list allow 44 (tl s)).2 93) else ([], s)
def union : P := unionOf (brk 8)
def rel (s : St) : Rl × St :=
  (⟨(word s).1, (allows (word s).2).1, (union (need (allows (word s).2).2 61)).1⟩, need (union (need (allows (word s).2).2 61)).2 59)
def typ (s : St) : Ty × St :=
  (⟨(word s).1, (eachs rel 3 (need (word s).2 123)).1⟩, need (eachs rel 3 (need (word s).2 123)).2 125)
def config (s : St) : List Ty × St := eachs typ 2 s

/-- What is wrong behind all that was read. -/
def fin (s : St) : St := if next s ≠ 0 then fail s 11 else s
/-- The place of what is left of tokens. -/
def place (l : List Tok) (s : St) (e : Nat × Nat) : Nat × Nat := match l.drop (l.length - s.rest.length) with
  | [] => e
  | t :: _ => t.at'
def done {α : Type} (z : α) (l : List Tok) (e : Nat × Nat) (r : α × St) : α × (Nat × Nat) × Nat :=
  if (fin r.2).err = 0 then (r.1, (0, 0), 0) else (z, place l (fin r.2) e, (fin r.2).err)
/-- The answer of a text: what is read, the place, the error. -/
def answer {α : Type} (z : α) (p : St → α × St) (a : Int × (Nat × Nat) × List Tok) : α × (Nat × Nat) × Int :=
  if a.1 = 0 then ((done z a.2.2 a.2.1 (p ⟨kt a.2.2, 0⟩)).1, (done z a.2.2 a.2.1 (p ⟨kt a.2.2, 0⟩)).2.1, ((done z a.2.2 a.2.1 (p ⟨kt a.2.2, 0⟩)).2.2 : Int)) else (z, a.2.1, a.1)
def zeroN : Nd := .mk 0 none0 none0 []
def exprA (s : ByteArray) : Nd × (Nat × Nat) × Int := answer zeroN union (Sg.ans (Gly.runes s.data.toList))
def parseA (s : ByteArray) : List Ty × (Nat × Nat) × Int := answer [] config (Sg.ans (Gly.runes s.data.toList))

/-! ### a part stops further on, or where it began -/
/-- What is left is an end of what was there; an error stays. -/
structure Fine {α : Type} (p : St → α × St) : Prop where
  suf : ∀ s, (p s).2.rest <:+ s.rest
  err : ∀ s, s.err ≠ 0 → (p s).2 = s
theorem next_bad {s : St} (h : s.err ≠ 0) : next s = 0 := if_neg h
theorem next_good {s : St} (h : next s ≠ 0) : s.err = 0 ∧ ∃ t r, s.rest = t :: r ∧ t.1 = next s := by
  by_cases he : s.err = 0
  · refine ⟨he, ?_⟩
    rw [next, if_pos he] at h ⊢
    cases hr : s.rest with
    | nil => rw [hr] at h; exact absurd rfl h
    | cons t r => exact ⟨t, r, rfl, rfl⟩
  · exact absurd (next_bad he) h
theorem fail_bad {s : St} (h : s.err ≠ 0) (e : Nat) : fail s e = s := if_neg h
theorem need_bad {s : St} (h : s.err ≠ 0) {k : Int} (hk : k ≠ 0) : need s k = s := by rw [need, next_bad h, if_neg (fun e => hk e.symm), fail_bad h]
theorem fail_rest (s : St) (e : Nat) : (fail s e).rest = s.rest := by rw [fail]; split <;> rfl
theorem need_suf (s : St) (k : Int) : (need s k).rest <:+ s.rest := by
  rw [need]; split
  · exact List.tail_suffix _
  · rw [fail_rest]; exact List.suffix_refl _
theorem word_fine : Fine word := ⟨fun s => by
  rw [word]; split
  · exact List.tail_suffix _
  · rw [fail_rest]; exact List.suffix_refl _, fun s h => by rw [word, next_bad h, if_neg (by decide)]; exact fail_bad h _⟩
theorem tl_suf (s : St) : (tl s).rest <:+ s.rest := List.tail_suffix _
theorem tl_len {s : St} (h : next s ≠ 0) : (tl s).rest.length + 1 = s.rest.length := by
  obtain ⟨-, t, r, hr, -⟩ := next_good h
  rw [tl, hr]; rfl
section
variable {α : Type} {one : St → α × St} {k : Int}
theorem each_suf (hf : Fine one) : ∀ (f : Nat) (s : St), (each one k f s).2.rest <:+ s.rest
  | 0, s => List.suffix_refl _
  | f + 1, s => by
    rw [each]
    split
    · exact (each_suf hf f _).trans ((hf.suf _).trans (tl_suf s))
    · exact List.suffix_refl _
theorem each_more (hf : Fine one) (hk : k ≠ 0) : ∀ (f g : Nat) (s : St), s.rest.length ≤ f → s.rest.length ≤ g → each one k f s = each one k g s
  | 0, 0, s, _, _ => rfl
  | 0, g + 1, s, h, _ => by
    have h0 : next s ≠ k := fun e => by
      have := tl_len (s := s) (by rw [e]; exact hk)
      omega
    rw [each, each, if_neg h0]
  | f + 1, 0, s, _, h => by
    have h0 : next s ≠ k := fun e => by
      have := tl_len (s := s) (by rw [e]; exact hk)
      omega
    rw [each, each, if_neg h0]
  | f + 1, g + 1, s, h1, h2 => by
    rw [each, each]
    by_cases hn : next s = k
    · have h3 := tl_len (s := s) (by rw [hn]; exact hk)
      have h4 := (hf.suf (tl s)).length_le
      rw [if_pos hn, if_pos hn, each_more hf hk f g _ (by omega) (by omega)]
    · rw [if_neg hn, if_neg hn]
theorem eachs_on (hf : Fine one) (hk : k ≠ 0) {s : St} (h : next s = k) : eachs one k s = ((one (tl s)).1 :: (eachs one k (one (tl s)).2).1, (eachs one k (one (tl s)).2).2) := by
  have h3 := tl_len (s := s) (by rw [h]; exact hk)
  have h4 := (hf.suf (tl s)).length_le
  rw [eachs, ← h3, each, if_pos h, each_more hf hk (tl s).rest.length (one (tl s)).2.rest.length _ (by omega) (Nat.le_refl _)]
  rfl
theorem eachs_off {s : St} (h : next s ≠ k) : eachs one k s = ([], s) := by
  rw [eachs]
  cases s.rest.length with
  | zero => rfl
  | succ n => rw [each, if_neg h]
theorem eachs_fine (hf : Fine one) (hk : k ≠ 0) : Fine (eachs one k) := ⟨fun s => each_suf hf _ s, fun s h => by rw [eachs_off (by rw [next_bad h]; exact fun e => hk e.symm)]⟩
theorem list_fine (hf : Fine one) (hk : k ≠ 0) : Fine (list one k) := ⟨fun s => ((eachs_fine hf hk).suf _).trans (hf.suf s), fun s h => by
  have h1 := hf.err s h
  rw [list, h1]
  exact (eachs_fine hf hk).err s h⟩
theorem each_len (hf : Fine one) (hk : k ≠ 0) : ∀ (f : Nat) (s : St), (each one k f s).1.length + (each one k f s).2.rest.length ≤ s.rest.length
  | 0, s => by rw [each]; simp
  | f + 1, s => by
    rw [each]
    by_cases hn : next s = k
    · have h3 := tl_len (s := s) (by rw [hn]; exact hk)
      have h4 := (hf.suf (tl s)).length_le
      have h5 := each_len hf hk f (one (tl s)).2
      rw [if_pos hn]
      simp only [List.length_cons]
      omega
    · rw [if_neg hn]; simp
end
theorem atom_fine {br : P} (h : Fine br) : Fine (atomOf br) := ⟨fun s => by
  rw [atomOf]
  split
  · exact tl_suf s
  · split
    · exact h.suf s
    · split
      · exact (word_fine.suf _).trans ((tl_suf _).trans (word_fine.suf s))
      · exact word_fine.suf s, fun s he => by
  have hw := word_fine.err s he
  rw [atomOf, next_bad he, if_neg (by decide), if_neg (by decide), hw, next_bad he, if_neg (by decide)]⟩
theorem less_fine {br : P} (h : Fine br) : Fine (lessOf br) := ⟨fun s => by
  rw [lessOf]
  split
  · exact ((atom_fine h).suf _).trans ((tl_suf _).trans ((atom_fine h).suf s))
  · exact (atom_fine h).suf s, fun s he => by
  have hw := (atom_fine h).err s he
  rw [lessOf, hw, next_bad he, if_neg (by decide), hw]⟩
theorem meet_fine {br : P} (h : Fine br) : Fine (meetOf br) := ⟨(list_fine (less_fine h) (by decide)).suf, (list_fine (less_fine h) (by decide)).err⟩
theorem union_fine {br : P} (h : Fine br) : Fine (unionOf br) := ⟨(list_fine (meet_fine h) (by decide)).suf, (list_fine (meet_fine h) (by decide)).err⟩
theorem need_fine {α : Type} {p : St → α × St} (hp : Fine p) {k : Int} (hk : k ≠ 0) {β : Type} (g : St → β) : Fine (fun s => (g s, need (p s).2 k)) := ⟨fun s => (need_suf _ _).trans (hp.suf s), fun s he => by
  show need (p s).2 k = s
  rw [hp.err s he, need_bad he hk]⟩
theorem after_fine {α : Type} {p : St → α × St} (hp : Fine p) {k : Int} (hk : k ≠ 0) : Fine (fun s => p (need s k)) := ⟨fun s => (hp.suf _).trans (need_suf s k), fun s he => by
  show (p (need s k)).2 = s
  rw [need_bad he hk, hp.err s he]⟩
theorem brk_fine : ∀ d, Fine (brk d)
  | 0 => ⟨fun s => by rw [brk]; simp only; rw [fail_rest]; exact List.suffix_refl _, fun s he => fail_bad he _⟩
  | d + 1 => need_fine (after_fine (union_fine (brk_fine d)) (k := 40) (by decide)) (k := 41) (by decide) _
theorem uni_fine : Fine union := union_fine (brk_fine 8)
theorem allow_fine : Fine allow := ⟨fun s => by
  rw [allow]
  split
  · exact (word_fine.suf _).trans ((tl_suf _).trans (word_fine.suf s))
  · split
    · exact (need_suf _ _).trans ((tl_suf _).trans (word_fine.suf s))
    · exact word_fine.suf s, fun s he => by
  have hw := word_fine.err s he
  rw [allow, hw, next_bad he, if_neg (by decide), if_neg (by decide)]⟩
theorem allows_fine : Fine allows := ⟨fun s => by
  rw [allows]
  split
  · exact (need_suf _ _).trans (((list_fine allow_fine (by decide)).suf _).trans (tl_suf s))
  · exact List.suffix_refl _, fun s he => by rw [allows, next_bad he, if_neg (by decide)]⟩
theorem rel_fine : Fine rel := ⟨fun s => by
  have h1 := word_fine.suf s
  have h2 := allows_fine.suf (word s).2
  have h3 := need_suf (allows (word s).2).2 61
  have h4 := uni_fine.suf (need (allows (word s).2).2 61)
  have h5 := need_suf (union (need (allows (word s).2).2 61)).2 59
  rw [rel]
  exact h5.trans (h4.trans (h3.trans (h2.trans h1))), fun s he => by
  rw [rel]
  simp only
  rw [word_fine.err s he, allows_fine.err s he, need_bad he (by decide), uni_fine.err s he, need_bad he (by decide)]⟩
theorem typ_fine : Fine typ := ⟨fun s => by
  have h1 := word_fine.suf s
  have h2 := need_suf (word s).2 123
  have h3 := (eachs_fine rel_fine (k := 3) (by decide)).suf (need (word s).2 123)
  have h4 := need_suf (eachs rel 3 (need (word s).2 123)).2 125
  rw [typ]
  exact h4.trans (h3.trans (h2.trans h1)), fun s he => by
  rw [typ]
  simp only
  rw [word_fine.err s he, need_bad he (by decide), (eachs_fine rel_fine (by decide)).err s he, need_bad he (by decide)]⟩
theorem config_fine : Fine config := eachs_fine typ_fine (by decide)
end Gr
end Go.Proofs.YtbphmaoomnocmaaDoor
