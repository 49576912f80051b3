/-
  Layer 6 (sigil): package sigil's kinds of runes; the second rune; how far runes go on.
  Layer 6 (sigil): package sigil's second, span, sign, word, front and behind.
  Layer 6 (sigil): package sigil's word and piece.
  Layer 6 (sigil): package sigil's End.
  Layer 6 (sigil): package sigil's Lex.
  Layer 6 (sigil): a token of a list.
-/
import Derived.Test.YtopncohhagebbaaDoorMgMem
import Derived.Test.YtopncohhagebbaaDoorMgPure
import Derived.RegionTactic
import Derived.BigRegion
namespace Go.Proofs.YtopncohhagebbaaDoor
open Go.RowKit
namespace Sg
open Gl (drop_ne width drop_next drop_end)

/-- What stands at a place of UTF-8 text. -/
theorem at_rune {s : ByteArray} {pos : Nat} {q : List Nat} (h : Gly.runes (s.data.toList.drop pos) = some q) (hp : pos < s.size) :
    ∃ t, q = (Utf8.decode s pos).1 :: t ∧ Gly.runes (s.data.toList.drop (pos + (Utf8.decode s pos).2)) = some t ∧ (Utf8.decode s pos).1 ≤ 1114111 ∧
      ∀ n, Gly.pre (n + 1) (s.data.toList.drop pos) = (Utf8.decode s pos).2 + Gly.pre n (s.data.toList.drop (pos + (Utf8.decode s pos).2)) := by
  have hne := drop_ne hp
  have hb := Gly.runes_good h hne
  have hmx := Gly.dec_max _ hne
  rw [← Gly.dec_at] at hmx
  rw [Gly.runes_step hne hb, drop_next] at h
  cases hu : Gly.runes (s.data.toList.drop (pos + (Utf8.decode s pos).2)) with
  | none => rw [hu] at h; cases h
  | some u =>
    rw [hu, ← Gly.dec_at] at h
    refine ⟨u, (Option.some.inj h).symm, rfl, hmx, fun n => ?_⟩
    rw [Gly.pre_step hne, drop_next, Gly.dec_at]
theorem at_end {s : ByteArray} {pos : Nat} {q : List Nat} (h : Gly.runes (s.data.toList.drop pos) = some q) (hp : ¬ pos < s.size) : q = [] := by
  rw [drop_end hp, Gly.runes_nil] at h
  exact (Option.some.inj h).symm

end Sg
end Go.Proofs.YtopncohhagebbaaDoor

namespace Go.Proofs.YtopncohhagebbaaDoor
open Go.RowKit
namespace Sg
open Gl (drop_ne width drop_next drop_end)

/-- A function's value. -/
abbrev fnv (f : FuncId) : Value := .func (.func f) #[] #[]
/-- A function that is asked of runes. -/
structure Asks (f : FuncId) (g : Nat → Bool) : Prop where
  enter : ∀ args x, (callFunc f args).run Tryd.prog x = .ok (.enter f args) x
  ask : ∀ (r : Nat) (_ : r ≤ 1114111) (w : World), Calls Tryd.prog f #[.int .i32 r] w fun e w' => e = .returned (.bool (g r)) ∧ w = w'
/-- The signs, as text. -/
def sgn : ByteArray := ⟨#[123, 125, 91, 93, 40, 41, 61, 59, 44, 58, 35, 42, 124, 38, 45]⟩
theorem sgn_size : sgn.size = 15 := rfl
theorem sgn_decode : ∀ p, p < 15 → (Utf8.decode sgn p).1 = signs.getD p 0 ∧ (Utf8.decode sgn p).2 = 1 ∧ signs.getD p 0 < 128 := by decide +kernel
theorem signs_drop : ∀ {p : Nat}, p < 15 → signs.drop p = signs.getD p 0 :: signs.drop (p + 1) := by
  intro p
  exact (show ∀ p, p < 15 → signs.drop p = signs.getD p 0 :: signs.drop (p + 1) by decide) p

/-- A place's value. -/
def plV (p : Nat × Nat) : Value := .agg #[.int .i64 (p.1 : Nat), .int .i64 (p.2 : Nat)]

end Sg
end Go.Proofs.YtopncohhagebbaaDoor

namespace Go.Proofs.YtopncohhagebbaaDoor
open Go.RowKit
namespace Sg
open Gl (drop_ne width drop_next drop_end)

/-- Runes below 128 are bytes. -/
theorem low_bytes : ∀ (m : Nat) (l : List UInt8) (q : List Nat), Gly.runes l = some q → m ≤ q.length → (∀ r ∈ q.take m, r < 128) → Gly.pre m l = m ∧ l.take m = (q.take m).map Nat.toUInt8
  | 0, l, q, _, _, _ => by simp [Gly.pre]
  | m + 1, l, q, h, hm, hlow => by
    cases q with
    | nil => simp at hm
    | cons r t =>
      have hl := Gly.runes_ne h (by simp)
      have hb := Gly.runes_good h hl
      rw [Gly.runes_step hl hb] at h
      cases hu : Gly.runes (l.drop (Gly.dec l).2) with
      | none => rw [hu] at h; cases h
      | some u =>
        rw [hu] at h
        obtain ⟨rfl, rfl⟩ : (Gly.dec l).1 = r ∧ u = t := List.cons.inj (Option.some.inj h)
        have hr : (Gly.dec l).1 < 128 := hlow _ (by simp)
        have hd : Gly.dec l = (Gly.byte l 0, 1) := by
          have h0 := Gly.byte_lt l 0; have h1 := Gly.byte_lt l 1; have h2 := Gly.byte_lt l 2; have h3 := Gly.byte_lt l 3
          rcases Gly.dec_cases l hl with ⟨_, e⟩ | ⟨_, _, _, _, _, e⟩ | ⟨_, _, _, _, _, _, _, e⟩ | ⟨_, _, _, _, _, _, _, _, e⟩ | ⟨_, e⟩
          · exact e
          · rw [e] at hr; simp only at hr; omega
          · rw [e] at hr; simp only at hr; omega
          · rw [e] at hr; simp only at hr; omega
          · rw [e] at hr; simp at hr
        have h2 := low_bytes m _ u hu (by simpa using hm) (fun x hx => hlow x (by rw [List.take_succ_cons]; exact List.mem_cons_of_mem _ hx))
        rw [hd] at h2
        simp only at h2
        refine ⟨by rw [Gly.pre_step hl, hd]; simp only; omega, ?_⟩
        rw [List.take_succ_cons, List.map_cons, ← h2.2, hd]
        conv => lhs; rw [Gly.cons_byte hl]
        rw [List.take_succ_cons]
        congr 1
        simp [Gly.byte]

theorem low_inj : ∀ (a b : List Nat), (∀ r ∈ a, r < 128) → (∀ r ∈ b, r < 128) → a.map Nat.toUInt8 = b.map Nat.toUInt8 → a = b
  | [], [], _, _, _ => rfl
  | [], _ :: _, _, _, h => by simp at h
  | _ :: _, [], _, _, h => by simp at h
  | x :: a, y :: b, ha, hb, h => by
    rw [List.map_cons, List.map_cons] at h
    obtain ⟨h1, h2⟩ := List.cons.inj h
    have hx := ha x (by simp); have hy := hb y (by simp)
    have := congrArg UInt8.toNat h1
    simp at this
    rw [Nat.mod_eq_of_lt (by omega), Nat.mod_eq_of_lt (by omega)] at this
    rw [this, low_inj a b (fun r hr => ha r (by simp [hr])) (fun r hr => hb r (by simp [hr])) h2]

/-- The kind of a word, told by its bytes. -/
def kindB (x : ByteArray) : Int := if x.toList == [116, 121, 112, 101] then 2 else if x.toList == [114, 101, 108] then 3 else if x.toList == [116, 104, 105, 115] then 4 else 1
theorem kindB_low {x : ByteArray} {t : List Nat} (h : x.data.toList = t.map Nat.toUInt8) (ht : ∀ r ∈ t, r < 128) : kindB x = kindOf t := by
  have key : ∀ (k : List Nat), (∀ r ∈ k, r < 128) → ((x.toList == k.map Nat.toUInt8) = true ↔ t = k) := fun k hk => by
    rw [Lib.toList_data, h, beq_iff_eq]
    constructor
    · exact low_inj _ _ ht hk
    · rintro rfl; rfl
  have k1 : (x.toList == [116, 121, 112, 101]) = true ↔ t = [116, 121, 112, 101] := key [116, 121, 112, 101] (by decide)
  have k2 : (x.toList == [114, 101, 108]) = true ↔ t = [114, 101, 108] := key [114, 101, 108] (by decide)
  have k3 : (x.toList == [116, 104, 105, 115]) = true ↔ t = [116, 104, 105, 115] := key [116, 104, 105, 115] (by decide)
  unfold kindB kindOf
  simp only [k1, k2, k3]

end Sg
end Go.Proofs.YtopncohhagebbaaDoor

namespace Go.Proofs.YtopncohhagebbaaDoor
open Go.RowKit
namespace Sg
open Gl (drop_ne width drop_next drop_end)

/-- All that a range tells, stray bytes too. -/
def told (l : List UInt8) : List Nat :=
  if _h : l = [] then [] else (Gly.dec l).1 :: told (l.drop (Gly.dec l).2)
termination_by l.length
decreasing_by exact Gly.drop_lt (by assumption)
theorem told_nil : told [] = [] := by rw [told]; rfl
theorem told_step {l : List UInt8} (h : l ≠ []) : told l = (Gly.dec l).1 :: told (l.drop (Gly.dec l).2) := by rw [told, dif_neg h]
theorem told_runes : ∀ (k : Nat) (l : List UInt8) (q : List Nat), l.length ≤ k → Gly.runes l = some q → told l = q
  | k, l, q, hk, hq => by
    by_cases h : l = []
    · subst h; rw [Gly.runes_nil] at hq; cases hq; exact told_nil
    · have hl := Gly.drop_lt h
      obtain ⟨k, rfl⟩ : ∃ j, k = j + 1 := ⟨k - 1, by omega⟩
      rw [Gly.runes_step h (Gly.runes_good hq h)] at hq
      cases hu : Gly.runes (l.drop (Gly.dec l).2) with
      | none => rw [hu] at hq; cases hq
      | some u =>
        rw [hu] at hq; cases hq
        rw [told_step h, told_runes k _ u (by omega) hu]
theorem told_len : ∀ (k : Nat) (l : List UInt8), l.length ≤ k → (told l).length ≤ l.length
  | k, l, hk => by
    by_cases h : l = []
    · subst h; rw [told_nil]; simp
    · have hl := Gly.drop_lt h
      obtain ⟨k, rfl⟩ : ∃ j, k = j + 1 := ⟨k - 1, by omega⟩
      have := told_len k (l.drop (Gly.dec l).2) (by omega)
      rw [told_step h, List.length_cons]; omega

/-- A place is stored in a box. -/
def setPl (x : World) (P : Nat) (p : Nat × Nat) : World := (x.setCell ⟨P, 0, none⟩ (.int .i64 (p.1 : Nat))).setCell ⟨P, 1, none⟩ (.int .i64 (p.2 : Nat))
theorem setPl_other (x : World) (P : Nat) (p : Nat × Nat) {k : Nat} (hk : k ≠ P) : (setPl x P p).heap[k]? = x.heap[k]? :=
  (Below.heap_setCell _ _ _ k hk).trans (Below.heap_setCell _ _ _ k hk)
theorem setPl_below {w x : World} {B P : Nat} (p : Nat × Nat) (h : Below B w x) (hB : B ≤ P) : Below B w (setPl x P p) := (h.setCell (p := ⟨P, 0, none⟩) hB _).setCell (p := ⟨P, 1, none⟩) hB _
theorem setPl_size (x : World) (P : Nat) (p : Nat × Nat) : (setPl x P p).heap.size = x.heap.size := by simp [setPl, World.setCell]
end Sg
end Go.Proofs.YtopncohhagebbaaDoor

namespace Go.Proofs.YtopncohhagebbaaDoor
open Go.RowKit
namespace Sg
open Gl (drop_ne width drop_next drop_end)
open Tr (IsElem own_below own_slice wp_rows)
open Knot (Turns NewRow)

/-- Bytes as text. -/
def txt (l : List Nat) : ByteArray := ⟨(l.map Nat.toUInt8).toArray⟩
/-- The cells of tokens. -/
def tokC (t : Tok) : List Value := [.int .i64 t.kind, .string (txt t.text), .int .i64 (t.at'.1 : Nat), .int .i64 (t.at'.2 : Nat)]
def toksC (l : List Tok) : List Value := l.flatMap tokC
theorem toksC_snoc (l : List Tok) (t : Tok) : toksC (l ++ [t]) = toksC l ++ tokC t := by simp [toksC]
theorem toksC_len : ∀ l : List Tok, (toksC l).length = l.length * 4
  | [] => rfl
  | t :: l => by
    have := toksC_len l
    rw [toksC] at this ⊢
    rw [List.flatMap_cons, List.length_append, this, List.length_cons]
    show 4 + _ = _
    omega
theorem own_mono {w : World} {B C n c : Nat} {e : TypeId} {v : Value} {xs : List Value} (h : w.ownsRow B e c v n xs) (hC : C ≤ B) : w.ownsRow C e c v n xs := by
  refine ⟨h.1, ?_⟩
  rcases h.2 with h | ⟨g, cap, cur, hv, hb, r⟩
  · exact .inl h
  · exact .inr ⟨g, cap, cur, hv, by omega, r⟩
/-- The list at a place: what a slice of the text holds. -/
theorem txt_take {s : ByteArray} {pos : Nat} {u : List Nat} (hu : Gly.runes (s.data.toList.drop pos) = some u) (h1 : (piece u).1 ≠ -1) :
    Gly.pre (piece u).2 (s.data.toList.drop pos) = (piece u).2 ∧ s.extract pos (pos + (piece u).2) = txt (u.take (piece u).2) := by
  obtain ⟨h, ht⟩ := low_bytes _ _ _ hu (piece_le u) (piece_low h1)
  refine ⟨h, ?_⟩
  have hx : (s.extract pos (pos + (piece u).2)).data.toList = (u.take (piece u).2).map Nat.toUInt8 := by
    rw [Lib.extract_data, ← ht]; simp
  unfold txt
  rw [← hx]
theorem pre_eq {s : ByteArray} {pos k : Nat} (hp : pos < s.size) : Gly.pre k (s.data.toList.drop pos) = 0 ↔ k = 0 := by
  cases k with
  | zero => simp [Gly.pre]
  | succ k =>
    rw [Gly.pre_step (drop_ne hp)]
    have := Gly.dec_width _ (drop_ne hp)
    omega

section
variable {w : World} {P : Nat} {s : ByteArray} {pos : Nat} {p : Nat × Nat} {v : Value} {acc : List Tok} {x y : World}
end

end Sg
end Go.Proofs.YtopncohhagebbaaDoor

namespace Go.Proofs.YtopncohhagebbaaDoor
open Go.RowKit
namespace Sg
open Tr (IsElem own_below own_slice own_open)

/-! ### a token of a list -/
/-- A token's cells. -/
def TokAt (x : World) (g o : Nat) (t : Tok) : Prop := x.cell? ⟨g, o, none⟩ = some (.int .i64 t.kind) ∧ x.cell? ⟨g, o + 1, none⟩ = some (.string (txt t.text)) ∧ x.cell? ⟨g, o + 2, none⟩ = some (.int .i64 (t.at'.1 : Nat)) ∧ x.cell? ⟨g, o + 3, none⟩ = some (.int .i64 (t.at'.2 : Nat))
theorem TokAt.on {x y : World} {g o : Nat} {t : Tok} (h : TokAt x g o t) (hg : g < x.heap.size) (hb : Below x.heap.size x y) : TokAt y g o t :=
  ⟨(hb.cell (p := ⟨g, o, none⟩) hg).trans h.1, (hb.cell (p := ⟨g, o + 1, none⟩) hg).trans h.2.1, (hb.cell (p := ⟨g, o + 2, none⟩) hg).trans h.2.2.1, (hb.cell (p := ⟨g, o + 3, none⟩) hg).trans h.2.2.2⟩
theorem toksC_at : ∀ (l : List Tok) {j : Nat} (h : j < l.length), (toksC l)[j * 4]? = some (.int .i64 l[j].kind) ∧ (toksC l)[j * 4 + 1]? = some (.string (txt l[j].text)) ∧ (toksC l)[j * 4 + 2]? = some (.int .i64 (l[j].at'.1 : Nat)) ∧ (toksC l)[j * 4 + 3]? = some (.int .i64 (l[j].at'.2 : Nat))
  | r :: l, 0, _ => ⟨rfl, rfl, rfl, rfl⟩
  | r :: l, j + 1, h => by
    have ih := toksC_at l (j := j) (by simpa using h)
    have e : ∀ c, (toksC (r :: l))[(j + 1) * 4 + c]? = (toksC l)[j * 4 + c]? := fun c => by
      rw [show (j + 1) * 4 + c = (j * 4 + c) + 4 by omega]
      rfl
    have e0 := e 0
    rw [Nat.add_zero, Nat.add_zero] at e0
    exact ⟨e0.trans ih.1, (e 1).trans ih.2.1, (e 2).trans ih.2.2.1, (e 3).trans ih.2.2.2⟩
/-! ### texts of bytes below 128 -/
theorem dec_low {b : UInt8} {l : List UInt8} (h : b.toNat < 128) : Gly.dec (b :: l) = (b.toNat, 1) := by
  rw [Gly.dec_def, Lib.decodeN, if_pos (by simpa [Gly.byte] using h)]
  rfl
theorem runes_low : ∀ (l : List UInt8), (∀ b ∈ l, b.toNat < 128) → Gly.runes l = some (l.map UInt8.toNat)
  | [], _ => Gly.runes_nil
  | b :: l, h => by
    have hb := h b (by simp)
    have hd := dec_low (l := l) hb
    have hbad : Gly.bad (b :: l) = false := by
      rw [Gly.bad, hd]; simp; omega
    rw [Gly.runes_step (by simp) hbad, hd]
    simp only [List.drop_succ_cons, List.drop_zero]
    rw [runes_low l (fun x hx => h x (by simp [hx]))]
    rfl

end Sg
end Go.Proofs.YtopncohhagebbaaDoor
