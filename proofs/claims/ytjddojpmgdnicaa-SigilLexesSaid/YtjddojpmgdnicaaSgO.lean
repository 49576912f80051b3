/-
  Layer 6 (sigil): what Lex answers, by its error; texts; tokens of a list, wherever it lies.
-/
import Derived.Test.YtjddojpmgdnicaaSgL
import Derived.Test.YtjddojpmgdnicaaSgN
namespace Go.Proofs.Ytjddojpmgdnicaa
open Go.RowKit
namespace Sg
open Tr (own_slice own_below)

theorem ans_good {o : Option (List Nat)} (h : (ans o).1 = 0) : ∃ q, o = some q ∧ q.length ≤ 3000 ∧ (lex (1, 1) q).2.2 = true ∧ ans o = (0, (lex (1, 1) q).2.1, (lex (1, 1) q).1) := by
  cases o with
  | none => exact absurd h (by decide)
  | some q =>
    by_cases hl : 3000 < q.length
    · rw [ans_long hl] at h; exact absurd h (by decide)
    · cases h2 : (lex (1, 1) q).2.2 with
      | true => exact ⟨q, rfl, by omega, h2, ans_ok hl h2⟩
      | false => rw [ans_bad hl h2] at h; simp at h
theorem ans_zero {q : List Nat} (hl : q.length ≤ 3000) (h : (lex (1, 1) q).2.2 = true) : ans (some q) = (0, (lex (1, 1) q).2.1, (lex (1, 1) q).1) := ans_ok (by omega) h

theorem txt_list (l : List Nat) : (txt l).data.toList = l.map Nat.toUInt8 := by simp [txt]
theorem txt_size (l : List Nat) : (txt l).size = l.length := by simp [txt, ByteArray.size]
theorem of_list {a b : ByteArray} (h : a.data.toList = b.data.toList) : a = b := by
  cases a; cases b; simp only at h
  congr 1
  exact Array.toList_inj.1 h
theorem txt_append (a b : List Nat) : txt a ++ txt b = txt (a ++ b) := by
  apply of_list
  rw [txt_list, ByteArray.data_append, Array.toList_append, txt_list, txt_list, List.map_append]
theorem low_nat : ∀ (l : List Nat), (∀ r ∈ l, r < 128) → (l.map Nat.toUInt8).map UInt8.toNat = l
  | [], _ => rfl
  | r :: l, h => by
    have hr := h r (by simp)
    rw [List.map_cons, List.map_cons, low_nat l fun x hx => h x (by simp [hx])]
    congr 1
    simp; omega
theorem txt_runes {l : List Nat} (h : ∀ r ∈ l, r < 128) : Gly.runes (txt l).data.toList = some l := by
  have key : ∀ b ∈ l.map Nat.toUInt8, b.toNat < 128 := by
    intro b hb
    rw [List.mem_map] at hb
    obtain ⟨r, hr, rfl⟩ := hb
    have := h r hr
    simp; omega
  rw [txt_list, runes_low _ key, low_nat l h]

/-- Tokens in memory: a slice's address. -/
def ToksAt (x : World) (ao : Option Addr) (l : List Tok) : Prop := ∀ j (h : j < l.length), ∃ g, ao = some ⟨g, 0, none⟩ ∧ g < x.heap.size ∧ TokAt x g (j * 4) l[j]
theorem ToksAt.of {B : Nat} {x : World} {ao : Option Addr} {cap : Nat} {l : List Tok} (h : x.ownsRow B 33 4 (.slice ao l.length cap) l.length (toksC l)) : ToksAt x ao l := by
  intro j hj
  obtain ⟨g, cap', hv, -, hg, hT⟩ := toks_open h (by rintro rfl; simp at hj)
  obtain ⟨rfl, -⟩ : ao = some ⟨g, 0, none⟩ ∧ _ := by simpa using hv
  exact ⟨g, rfl, hg, hT j hj⟩
theorem ToksAt.on {x y : World} {ao : Option Addr} {l : List Tok} (h : ToksAt x ao l) (hb : Below x.heap.size x y) : ToksAt y ao l := fun j hj => by
  obtain ⟨g, e, hg, ht⟩ := h j hj
  exact ⟨g, e, by have := hb.size; omega, ht.on hg hb⟩
end Sg
end Go.Proofs.Ytjddojpmgdnicaa
