/-
  Plain mathematics of layer 7 (grammar): more tokens behind; more brackets that may be opened; tokens of texts within brackets, and one behind another; two expressions with a sign between; words and sizes.
  Plain mathematics of layer 7 (grammar): the text of a configuration behind another's, with a line's end between them.
  Plain mathematics under the document's answers of layer 1 (stileref01): what its Rune computes is the decoder's rune, by the kinds of first bytes.
  Plain mathematics of layer 8 (canon): the tokens of an expression's one text, and how they are read.
  Plain mathematics of layer 8 (canon): an expression's one text, as bytes; its tokens; it is read as that expression.
  Plain mathematics of layer 8 (canon): a configuration's one text, as bytes; its tokens; it is parsed as that configuration.
  Plain mathematics of layer 8 (canon): texts, one part behind another; bounds of their lengths.
-/
import Derived.Test.YtopncohhagebbaaGreatDoorMgPure
import Derived.Lib.IndexMore
namespace Go.Proofs.YtopncohhagebbaaGreatDoor
open Go.RowKit
namespace Gr
open Tr (Nd none0)
open Sg (Tok kt)

/-- The signs that a part looks for behind what it has read. -/
def looks : List Int := [5, 45, 38, 124, 35, 58, 44, 3]
def Soft (B : List K) : Prop := ∀ k ∈ looks, headK B ≠ k
def Cond (r B : List K) : Prop := r ≠ [] ∨ Soft B
theorem Cond.suf {r r1 B : List K} (h : Cond r B) (hs : r <:+ r1) : Cond r1 B := by
  rcases h with h | h
  · exact .inl fun e => h (by rw [e] at hs; exact List.suffix_nil.1 hs)
  · exact .inr h
def app (s : St) (B : List K) : St := ⟨s.rest ++ B, s.err⟩
/-- More tokens behind change nothing. -/
def Ext {α : Type} (p : St → α × St) : Prop := ∀ s B, (p s).2.err = 0 → Cond (p s).2.rest B → p (app s B) = ((p s).1, app (p s).2 B)
section
variable {α : Type} {one : St → α × St} {k : Int}
end
/-! ### fewer brackets -/
/-- One reads as the other, or finds too many brackets. -/
def Dp {α : Type} (p q : St → α × St) : Prop := ∀ s, p s = q s ∨ (p s).2.err = 12
section
variable {α : Type} {p q : St → α × St} {k : Int}
end
/-- At a bracket. -/
def DpB (p q : P) : Prop := ∀ s, next s = 40 → p s = q s ∨ (p s).2.err = 12
end Gr
end Go.Proofs.YtopncohhagebbaaGreatDoor

namespace Go.Proofs.YtopncohhagebbaaGreatDoor
open Go.RowKit
namespace Sg

/-- The three signs between two expressions. -/
def between : List (List Nat × List (Int × List Nat)) := [([124], [(124, [124])]), ([38], [(38, [38])]), ([32, 45, 32], [(45, [45])])]
end Sg
end Go.Proofs.YtopncohhagebbaaGreatDoor

namespace Go.Proofs.YtopncohhagebbaaGreatDoor
open Go.RowKit
namespace Gr
open Tr (Nd none0)
open Sg (Tok kt)

abbrev B (A : List K) (R : List K) : List K := (40, [40]) :: (A ++ (41, [41]) :: R)
/-- The sign's kind, the node's. -/
def signs3 : List (Int × List Nat × Int) := [(124, [124], 4), (38, [38], 5), (45, [45], 6)]
section
variable {br : P} {s r r' : St} {x y : Nd}
end
end Gr
end Go.Proofs.YtopncohhagebbaaGreatDoor

namespace Go.Proofs.YtopncohhagebbaaGreatDoor
open Go.RowKit
namespace Sg

end Sg
end Go.Proofs.YtopncohhagebbaaGreatDoor

namespace Go.Proofs.YtopncohhagebbaaGreatDoor
open Go.RowKit
namespace Gr
open Tr (Nd none0)
open Sg (Tok kt)

/-- The signs, as bytes, and their nodes' kinds. -/
def mids : List (List UInt8 × Int) := [([124], 4), ([38], 5), ([32, 45, 32], 6)]
end Gr
end Go.Proofs.YtopncohhagebbaaGreatDoor

namespace Go.Proofs.YtopncohhagebbaaGreatDoor
open Go.RowKit
namespace Gr
open Tr (Nd none0)
open Sg (Tok kt)

end Gr
end Go.Proofs.YtopncohhagebbaaGreatDoor

namespace Go.Proofs.YtopncohhagebbaaGreatDoor
open Go.RowKit
namespace Gr
open Tr (Nd none0)
open Sg (Tok kt)

end Gr
end Go.Proofs.YtopncohhagebbaaGreatDoor

namespace Go.Proofs.YtopncohhagebbaaGreatDoor
open Go.RowKit
namespace Sg

end Sg
end Go.Proofs.YtopncohhagebbaaGreatDoor

namespace Go.Proofs.YtopncohhagebbaaGreatDoor
open Go.RowKit
namespace Gr
open Tr (Nd none0)
open Sg (Tok kt)

end Gr
end Go.Proofs.YtopncohhagebbaaGreatDoor

namespace Go.Proofs.YtopncohhagebbaaGreatDoor.Gly
open Go

/-- What Rune answers: the rune and its width, or noughts. -/
def rr (l : List UInt8) : Nat × Nat := if bad l then (0, 0) else dec l

theorem rr_bad {l : List UInt8} (h : bad l = true) : rr l = (0, 0) := by rw [rr, if_pos h]
theorem rr_good {l : List UInt8} (h : bad l = false) : rr l = dec l := by rw [rr, if_neg (by rw [h]; exact Bool.false_ne_true)]
theorem rr_of_bad {l : List UInt8} (h : dec l = (65533, 1)) : rr l = (0, 0) := rr_bad (by simp [bad, h])
theorem rr_of_good {l : List UInt8} {r n : Nat} (h : dec l = (r, n)) (hn : n ≠ 1 ∨ r ≠ 65533) : rr l = (r, n) := by
  rw [rr_good, h]
  simp only [bad, h, decide_eq_false_iff_not, Prod.mk.injEq]
  omega

theorem rr_one {l : List UInt8} (h : byte l 0 < 128) : rr l = (byte l 0, 1) := rr_of_good (by rw [dec_def, Lib.decodeN, if_pos h]) (by omega)
theorem rr_none {l : List UInt8} (h : (128 ≤ byte l 0 ∧ byte l 0 < 192) ∨ 248 ≤ byte l 0) : rr l = (0, 0) := by
  have hb := byte_lt l 0
  exact rr_of_bad (by rw [dec_def, Lib.decodeN, if_neg (by omega), if_neg (by omega), if_neg (by omega), if_neg (by omega)])

/-- The number that Rune has behind k bytes. -/
def pr (l : List UInt8) (base : Nat) : Nat → Int
  | 0 => 0
  | 1 => (byte l 0 : Int) - base
  | k + 2 => pr l base (k + 1) * 64 + (byte l (k + 1) : Int) - 128
theorem pr_one (l : List UInt8) (base : Nat) : pr l base 1 = (byte l 0 : Int) - base := rfl
theorem pr_succ (l : List UInt8) (base k : Nat) (h : 1 ≤ k) : pr l base (k + 1) = pr l base k * 64 + (byte l k : Int) - 128 := by
  obtain ⟨k, rfl⟩ : ∃ j, k = j + 1 := ⟨k - 1, by omega⟩
  rfl

def cont (l : List UInt8) (k : Nat) : Prop := 128 ≤ byte l k ∧ byte l k ≤ 191

theorem rr_short {l : List UInt8} {n : Nat} (hn : (192 ≤ byte l 0 ∧ byte l 0 < 224 ∧ n = 2) ∨ (224 ≤ byte l 0 ∧ byte l 0 < 240 ∧ n = 3) ∨ (240 ≤ byte l 0 ∧ byte l 0 < 248 ∧ n = 4)) (h : l.length < n) : rr l = (0, 0) := by
  refine rr_of_bad ?_
  rw [dec_def, Lib.decodeN, if_neg (by omega), if_neg (by omega), if_neg (by omega), if_neg (by omega)]

theorem rr_cut {l : List UInt8} {n k : Nat} (hn : (192 ≤ byte l 0 ∧ byte l 0 < 224 ∧ n = 2) ∨ (224 ≤ byte l 0 ∧ byte l 0 < 240 ∧ n = 3) ∨ (240 ≤ byte l 0 ∧ byte l 0 < 248 ∧ n = 4)) (h1 : 1 ≤ k) (h2 : k < n) (h : byte l k < 128 ∨ 191 < byte l k) : rr l = (0, 0) := by
  refine rr_of_bad ?_
  have b0 := byte_lt l 0; have b1 := byte_lt l 1; have b2 := byte_lt l 2; have b3 := byte_lt l 3
  rw [dec_def, Lib.decodeN]
  have : k = 1 ∨ k = 2 ∨ k = 3 := by omega
  rcases this with rfl | rfl | rfl
  all_goals
    rw [if_neg (by omega)]
    repeat' split
    all_goals first | rfl | (exfalso; omega)

/-- What Rune tells at the end, all the further bytes being such. -/
def out (r : Int) (n least : Nat) : Nat × Nat := if r < least ∨ 1114111 < r ∨ (55296 ≤ r ∧ r ≤ 57343) then (0, 0) else (r.toNat, n)
theorem out_bad {r : Int} {n least : Nat} (h : r < least ∨ 1114111 < r ∨ (55296 ≤ r ∧ r ≤ 57343)) : out r n least = (0, 0) := by rw [out, if_pos h]
theorem out_good {r : Int} {n least : Nat} (h : ¬ (r < least ∨ 1114111 < r ∨ (55296 ≤ r ∧ r ≤ 57343))) : out r n least = (r.toNat, n) := by rw [out, if_neg h]

theorem rr_two {l : List UInt8} (h : 192 ≤ byte l 0 ∧ byte l 0 < 224) (hl : 2 ≤ l.length) (c1 : cont l 1) : rr l = out (pr l 192 2) 2 128 := by
  obtain ⟨c1, d1⟩ := c1
  have e : pr l 192 2 = ((byte l 0 % 32 * 64 + byte l 1 % 64 : Nat) : Int) := by simp only [pr, Nat.zero_add]; omega
  rw [e]
  have hd : dec l = if byte l 0 % 32 * 64 + byte l 1 % 64 ≥ 128 then (byte l 0 % 32 * 64 + byte l 1 % 64, 2) else (65533, 1) := by
    rw [dec_def, Lib.decodeN, if_neg (by omega), if_pos (by omega)]
  by_cases c : byte l 0 % 32 * 64 + byte l 1 % 64 ≥ 128
  · rw [out_good (by omega), rr_of_good (hd.trans (if_pos c)) (by omega), Int.toNat_natCast]
  · rw [out_bad (by omega), rr_of_bad (hd.trans (if_neg c))]

theorem rr_three {l : List UInt8} (h : 224 ≤ byte l 0 ∧ byte l 0 < 240) (hl : 3 ≤ l.length) (c1 : cont l 1) (c2 : cont l 2) : rr l = out (pr l 224 3) 3 2048 := by
  obtain ⟨c1, d1⟩ := c1
  obtain ⟨c2, d2⟩ := c2
  have e : pr l 224 3 = ((byte l 0 % 16 * 4096 + byte l 1 % 64 * 64 + byte l 2 % 64 : Nat) : Int) := by simp only [pr, Nat.zero_add, Nat.reduceAdd]; omega
  rw [e]
  have hd : dec l = if byte l 0 % 16 * 4096 + byte l 1 % 64 * 64 + byte l 2 % 64 ≥ 2048 ∧ (byte l 0 % 16 * 4096 + byte l 1 % 64 * 64 + byte l 2 % 64 < 55296 ∨ (57344 ≤ byte l 0 % 16 * 4096 + byte l 1 % 64 * 64 + byte l 2 % 64 ∧ byte l 0 % 16 * 4096 + byte l 1 % 64 * 64 + byte l 2 % 64 ≤ 1114111)) then (byte l 0 % 16 * 4096 + byte l 1 % 64 * 64 + byte l 2 % 64, 3) else (65533, 1) := by
    rw [dec_def, Lib.decodeN, if_neg (by omega), if_neg (by omega), if_pos (by omega)]
  generalize byte l 0 % 16 * 4096 + byte l 1 % 64 * 64 + byte l 2 % 64 = v at hd ⊢
  by_cases c : v ≥ 2048 ∧ (v < 55296 ∨ (57344 ≤ v ∧ v ≤ 1114111))
  · rw [out_good (by omega), rr_of_good (hd.trans (if_pos c)) (by omega), Int.toNat_natCast]
  · rw [out_bad (by omega), rr_of_bad (hd.trans (if_neg c))]

theorem rr_four {l : List UInt8} (h : 240 ≤ byte l 0 ∧ byte l 0 < 248) (hl : 4 ≤ l.length) (c1 : cont l 1) (c2 : cont l 2) (c3 : cont l 3) : rr l = out (pr l 240 4) 4 65536 := by
  obtain ⟨c1, d1⟩ := c1
  obtain ⟨c2, d2⟩ := c2
  obtain ⟨c3, d3⟩ := c3
  have e : pr l 240 4 = ((byte l 0 % 8 * 262144 + byte l 1 % 64 * 4096 + byte l 2 % 64 * 64 + byte l 3 % 64 : Nat) : Int) := by simp only [pr, Nat.zero_add, Nat.reduceAdd]; omega
  rw [e]
  have hd : dec l = if byte l 0 % 8 * 262144 + byte l 1 % 64 * 4096 + byte l 2 % 64 * 64 + byte l 3 % 64 ≥ 65536 ∧ (byte l 0 % 8 * 262144 + byte l 1 % 64 * 4096 + byte l 2 % 64 * 64 + byte l 3 % 64 < 55296 ∨ (57344 ≤ byte l 0 % 8 * 262144 + byte l 1 % 64 * 4096 + byte l 2 % 64 * 64 + byte l 3 % 64 ∧ byte l 0 % 8 * 262144 + byte l 1 % 64 * 4096 + byte l 2 % 64 * 64 + byte l 3 % 64 ≤ 1114111)) then (byte l 0 % 8 * 262144 + byte l 1 % 64 * 4096 + byte l 2 % 64 * 64 + byte l 3 % 64, 4) else (65533, 1) := by
    rw [dec_def, Lib.decodeN, if_neg (by omega), if_neg (by omega), if_neg (by omega), if_pos (by omega)]
  generalize byte l 0 % 8 * 262144 + byte l 1 % 64 * 4096 + byte l 2 % 64 * 64 + byte l 3 % 64 = v at hd ⊢
  by_cases c : v ≥ 65536 ∧ (v < 55296 ∨ (57344 ≤ v ∧ v ≤ 1114111))
  · rw [out_good (by omega), rr_of_good (hd.trans (if_pos c)) (by omega), Int.toNat_natCast]
  · rw [out_bad (by omega), rr_of_bad (hd.trans (if_neg c))]

/-- Bounds of the number on the way. -/
theorem pr_bounds (l : List UInt8) (base : Nat) (h0 : base ≤ byte l 0) (h1 : byte l 0 < base + 32) : ∀ k, 1 ≤ k → k ≤ 4 → (∀ j, 1 ≤ j → j < k → cont l j) → 0 ≤ pr l base k ∧ pr l base k ≤ 16777215
  | 0, h, _, _ => by omega
  | 1, _, _, _ => by rw [pr_one]; omega
  | 2, _, _, hc => by have := hc 1 (by omega) (by omega); unfold cont at this; simp only [pr, Nat.zero_add]; omega
  | 3, _, _, hc => by have := hc 1 (by omega) (by omega); have := hc 2 (by omega) (by omega); unfold cont at *; simp only [pr, Nat.zero_add, Nat.reduceAdd]; omega
  | 4, _, _, hc => by have := hc 1 (by omega) (by omega); have := hc 2 (by omega) (by omega); have := hc 3 (by omega) (by omega); unfold cont at *; simp only [pr, Nat.zero_add, Nat.reduceAdd]; omega
  | k + 5, _, h, _ => by omega
end Go.Proofs.YtopncohhagebbaaGreatDoor.Gly

namespace Go.Proofs.YtopncohhagebbaaGreatDoor
open Go.RowKit
namespace Gr
open Tr (Nd none0 good goods fits size sizes depth depths size_pos sizes_mem)
open Sg (Tok kt)

/-- A text's bytes, as runes. -/
def wd (a : ByteArray) : List Nat := a.data.toList.map UInt8.toNat
def sgn (k : Int) : K := if k = 4 then (124, [124]) else if k = 5 then (38, [38]) else (45, [45])
def needsB (k q : Int) : Bool := (k == 4 && q == 4) || (k == 5 && (q == 4 || q == 5)) || (k == 6 && decide (4 ≤ q))
def inBr (c : Bool) (T : List K) : List K := if c then (40, [40]) :: (T ++ [(41, [41])]) else T
mutual
def toksN : Nd → List K
  | .mk k a b l => if k = 1 then [(4, [116, 104, 105, 115])] else if k = 2 then [(1, wd a)] else if k = 3 then [(1, wd a), (5, [45, 62]), (1, wd b)] else toksL k true l
def toksL (k : Int) : Bool → List Nd → List K
  | _, [] => []
  | f, n :: r => (if f then [] else [sgn k]) ++ (inBr (needsB k n.kind) (toksN n) ++ toksL k false r)
end
theorem nil_none {a : ByteArray} (h : Tr.nil a = true) : a = none0 := by
  cases a with
  | mk d =>
    have h2 : d.toList = [] := by simpa [Tr.nil] using h
    have : d = #[] := by cases d; simp at h2; subst h2; rfl
    subst this
    rfl
/-- What stands behind: no sign that goes on. -/
def Quiet (n : Nat) (R : List K) : Prop := headK R ≠ 5 ∧ (1 ≤ n → headK R ≠ 45) ∧ (2 ≤ n → headK R ≠ 38) ∧ (3 ≤ n → headK R ≠ 124)
theorem Quiet.mono {m n : Nat} {R : List K} (h : Quiet n R) (hm : m ≤ n) : Quiet m R := ⟨h.1, fun h1 => h.2.1 (by omega), fun h1 => h.2.2.1 (by omega), fun h1 => h.2.2.2 (by omega)⟩
/-- How a node's tokens are read at each height. -/
structure Read8 (d : Nat) (n : Nd) : Prop where
  u : ∀ R, Quiet 3 R → unionOf (brk d) ⟨toksN n ++ R, 0⟩ = (n, ⟨R, 0⟩)
  m : n.kind ≠ 4 → ∀ R, Quiet 2 R → meetOf (brk d) ⟨toksN n ++ R, 0⟩ = (n, ⟨R, 0⟩)
  l : n.kind ≠ 4 → n.kind ≠ 5 → ∀ R, Quiet 1 R → lessOf (brk d) ⟨toksN n ++ R, 0⟩ = (n, ⟨R, 0⟩)
  a : n.kind ≤ 3 → ∀ R, Quiet 0 R → atomOf (brk d) ⟨toksN n ++ R, 0⟩ = (n, ⟨R, 0⟩)
end Gr
end Go.Proofs.YtopncohhagebbaaGreatDoor

namespace Go.Proofs.YtopncohhagebbaaGreatDoor
open Go.RowKit
namespace Gr
open Tr (Nd none0 good goods fits size sizes depth depths size_pos sizes_mem)
open Sg (Tok kt lex piece run inWord letter sign kindOf)

/-! ### pieces of text, one behind the other -/
/-- A text's tokens, whatever stands behind it that fulfils C. -/
def Lx (C : List Nat → Prop) (T : List Nat) (Ks : List K) : Prop := ∀ R p, C R → ∃ p' ts, kt ts = Ks ∧ lex p (T ++ R) = (ts ++ (lex p' R).1, (lex p' R).2)
def CW (R : List Nat) : Prop := inWord (R.headD 0) = false
def CT (_ : List Nat) : Prop := True
theorem Lx.nil (C : List Nat → Prop) : Lx C [] [] := fun _ p _ => ⟨p, [], rfl, rfl⟩
theorem name_in : ∀ (l : List UInt8), Gly.nameOk false l = true → ∀ x ∈ l.map UInt8.toNat, inWord x = true
  | [], _, x, hx => by simp at hx
  | c :: t, h, x, hx => by
    simp only [Gly.nameOk, Bool.and_eq_true, Bool.or_eq_true, Bool.not_false, Bool.true_and, beq_iff_eq] at h
    rcases List.mem_cons.1 hx with rfl | hx
    · have h1 := h.1
      simp only [Gly.letterB, Gly.digitB, decide_eq_true_eq] at h1
      simp only [inWord, decide_eq_true_eq]
      omega
    · exact name_in t h.2 x hx
/-! ### an expression's text -/
def sepB (k : Int) : List UInt8 := if k = 4 then [32, 124, 32] else if k = 5 then [32, 38, 32] else [32, 45, 32]
def inTx (c : Bool) (T : List UInt8) : List UInt8 := if c then 40 :: (T ++ [41]) else T
mutual
def prN : Nd → List UInt8
  | .mk k a b l => if k = 1 then [116, 104, 105, 115] else if k = 2 then a.data.toList else if k = 3 then a.data.toList ++ ([45, 62] ++ b.data.toList) else prL k true l
def prL (k : Int) : Bool → List Nd → List UInt8
  | _, [] => []
  | f, n :: r => (if f then [] else sepB k) ++ (inTx (needsB k n.kind) (prN n) ++ prL k false r)
end
abbrev rn (l : List UInt8) : List Nat := l.map UInt8.toNat
/-- The whole text. -/
theorem Lx.whole {T : List Nat} {Ks : List K} (h : Lx CW T Ks) (p : Nat × Nat) : kt (lex p T).1 = Ks ∧ (lex p T).2.2 = true := by
  obtain ⟨p', ts, h1, h2⟩ := h [] p (show inWord 0 = false by decide)
  rw [List.append_nil] at h2
  rw [h2, Sg.lex_nil]
  simp only [List.append_nil]
  exact ⟨h1, trivial⟩

/-! ### bytes -/
theorem word_len {a : ByteArray} (h : Tr.word a = true) : a.data.toList.length ≤ 16 := by
  unfold Tr.word at h
  simp only [Bool.and_eq_true, Gly.nameB, decide_eq_true_eq] at h
  exact h.1.1.2
end Gr
end Go.Proofs.YtopncohhagebbaaGreatDoor

namespace Go.Proofs.YtopncohhagebbaaGreatDoor
open Go.RowKit
namespace Gr
open Tr (Nd none0 good goods fits size sizes depth depths size_pos sizes_mem)
open Sg (Tok kt lex piece run inWord letter sign kindOf)

/-! ### tokens, and how they are read -/
def toksA (a : Al) : List K := (1, wd a.ty) :: ((if Tr.nil a.rel then [] else [(35, [35]), (1, wd a.rel)]) ++ (if a.wild then [(58, [58]), (42, [42])] else []))
def toksAl : List Al → List K
  | [] => []
  | a :: r => (91, [91]) :: (toksA a ++ (r.flatMap (fun a => (44, [44]) :: toksA a) ++ [(93, [93])]))
/-- Behind the token rel. -/
def toksR (r : Rl) : List K := (1, wd r.name) :: (toksAl r.allow ++ ((61, [61]) :: (toksN r.expr ++ [(59, [59])])))
/-- Behind the token type. -/
def toksT (t : Ty) : List K := (1, wd t.name) :: ((123, [123]) :: (t.rels.flatMap (fun r => (3, [114, 101, 108]) :: toksR r) ++ [(125, [125])]))
def toksC (l : List Ty) : List K := l.flatMap fun t => (2, [116, 121, 112, 101]) :: toksT t
def WA (a : Al) : Prop := Tr.word a.ty = true ∧ (a.rel = none0 ∨ a.wild = false ∧ Tr.word a.rel = true)
def WR (r : Rl) : Prop := Tr.word r.name = true ∧ (good r.expr = true ∧ depth r.expr ≤ 8) ∧ ∀ a ∈ r.allow, WA a
def WT (t : Ty) : Prop := Tr.word t.name = true ∧ ∀ r ∈ t.rels, WR r
/-- A configuration that is well made, but for its expressions' sizes. -/
def WC (l : List Ty) : Prop := ∀ t ∈ l, WT t

/-! ### the text -/
def prA (a : Al) : List UInt8 := a.ty.data.toList ++ ((if Tr.nil a.rel then [] else 35 :: a.rel.data.toList) ++ (if a.wild then [58, 42] else []))
def prAs : Bool → List Al → List UInt8
  | _, [] => []
  | f, a :: r => (if f then [91] else [44, 32]) ++ (prA a ++ prAs false r)
def prAl (l : List Al) : List UInt8 := prAs true l ++ (if l.isEmpty then [] else [93, 32])
def prR (r : Rl) : List UInt8 := [32, 32, 114, 101, 108, 32] ++ (r.name.data.toList ++ ([32] ++ (prAl r.allow ++ ([61, 32] ++ (prN r.expr ++ [59, 10])))))
def prT (t : Ty) : List UInt8 := [116, 121, 112, 101, 32] ++ (t.name.data.toList ++ ([32, 123, 10] ++ (t.rels.flatMap prR ++ [125, 10])))
def prC (l : List Ty) : List UInt8 := l.flatMap prT
/-! ### bytes -/
/-- All bytes are ASCII. -/
def Low (l : List UInt8) : Prop := ∀ b ∈ l, b.toNat < 128
theorem Low.app {a b : List UInt8} (ha : Low a) (hb : Low b) : Low (a ++ b) := fun x hx => by
  rcases List.mem_append.1 hx with hx | hx
  · exact ha x hx
  · exact hb x hx
end Gr
end Go.Proofs.YtopncohhagebbaaGreatDoor

namespace Go.Proofs.YtopncohhagebbaaGreatDoor
open Go.RowKit
namespace Gr
open Tr (Nd none0 good goods size sizes depth)

/-- Bytes as a text. -/
def bs (l : List UInt8) : ByteArray := ⟨l.toArray⟩
theorem bs_list (l : List UInt8) : (bs l).data.toList = l := rfl
theorem bs_size (l : List UInt8) : (bs l).size = l.length := rfl
end Gr
end Go.Proofs.YtopncohhagebbaaGreatDoor
