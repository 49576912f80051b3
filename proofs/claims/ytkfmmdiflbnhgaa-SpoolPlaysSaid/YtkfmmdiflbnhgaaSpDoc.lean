/-
  Layer 13, pure: what the document's record and Open find, and the program's: the same.
-/
import Derived.Test.YtkfmmdiflbnhgaaSpFind
namespace Go.Proofs.Ytkfmmdiflbnhgaa
set_option maxRecDepth 100000
open Go.RowKit
namespace Sp
/-- The record at a number, as the document looks for it: its bytes, its epoch, how many sectors it has. -/
def drec (rd : Nat → List UInt8) (count n : Nat) : Option (List UInt8 × Nat × Nat) :=
  if 0 < ofO (rd n) ∧ ofO (rd n) ≤ count ∧ All rd n (epO (rd n)) (ofO (rd n)) then some (bytes rd n (ofO (rd n)), epO (rd n), ofO (rd n)) else none
/-- The sectors of these numbers tell them. -/
def Cov (rd : Nat → List UInt8) (head n : Nat) : Prop := ∀ m, head ≤ m → m < n → nuO (rd m) = m
section
variable {rd : Nat → List UInt8} {head count n e o least epoch : Nat} {b : List UInt8}
theorem all_nu (h : All rd n e o) (hb : n + o ≤ 281474976710656) {k : Nat} (hk : k < o) : nuO (rd (n + k)) = n + k := by
  have h1 := (h k hk).2.2
  rw [h1]
  exact nuO_sec (by omega)
theorem Cov.more (h : Cov rd head n) (ha : All rd n e o) (hb : n + o ≤ 281474976710656) : Cov rd head (n + o) := fun m h1 h2 => by
  by_cases hm : m < n
  · exact h m h1 hm
  · have := all_nu ha hb (k := m - n) (by omega)
    rwa [show n + (m - n) = m by omega] at this
theorem fits_room (hp : ∀ k, rd (k + count) = rd k) (hc : Cov rd head n) (hh : head ≤ n) (hn : n < head + count) (h0 : 0 < count) (h : All rd n e o) (hb : n + o ≤ 281474976710656) : n + o ≤ head + count := by
  by_cases hlt : head + count < n + o
  · exfalso
    have h1 := all_nu h hb (k := head + count - n) (by omega)
    rw [show n + (head + count - n) = head + count by omega, hp] at h1
    have h2 : nuO (rd head) = head := by
      by_cases he : head = n
      · have := all_nu h hb (k := 0) (by omega)
        rwa [Nat.add_zero, ← he] at this
      · exact hc head (Nat.le_refl _) (by omega)
    omega
  · omega
theorem bytes_le (hl : ∀ k, (rd k).length = 128) (h : All rd n e o) : ∀ k, k ≤ o → (bytes rd n k).length ≤ k * 108
  | 0, _ => by simp [bytes_zero]
  | k + 1, hk => by
    have h1 := bytes_le hl h k (by omega)
    have h2 := (h k (by omega)).1
    rw [bytes_succ, List.length_append, owO_len (hl _) h2]
    omega
theorem drec_of_rec (hp : ∀ k, rd (k + count) = rd k) (hl : ∀ k, (rd k).length = 128) (hc : Cov rd head n) (hh : head ≤ n) (hn : n < head + count) (h0 : 0 < count) (hb : head + count ≤ 2000000000000) (h : rec rd n least epoch = some (b, e, o)) :
    drec rd count n = some (b, e, o) ∧ n + o ≤ head + count ∧ least ≤ e ∧ e < epoch ∧ 0 < o ∧ All rd n e o := by
  obtain ⟨h1, h2, h3, h4, h5, h6, h7, h8⟩ := rec_is h
  have ho := ofO_lt (hl n)
  have hr := fits_room hp hc hh hn h0 h4 (by omega)
  refine ⟨?_, hr, h2, h3, h1, h4⟩
  unfold drec
  rw [if_pos ⟨by omega, by omega, by rw [← h7, ← h8]; exact h4⟩, ← h7, ← h8, ← h6]
theorem drec_is (h : drec rd count n = some (b, e, o)) : 0 < o ∧ o ≤ count ∧ All rd n e o ∧ b = bytes rd n o ∧ o = ofO (rd n) ∧ e = epO (rd n) := by
  unfold drec at h
  split at h
  · rename_i hc
    injection h with h
    injection h with h1 h2
    injection h2 with h2 h3
    subst h1 h2 h3
    exact ⟨hc.1, hc.2.1, hc.2.2, rfl, rfl, rfl⟩
  · cases h
theorem drec_none (hl : ∀ k, (rd k).length = 128) (hz : count ≤ 555) (h : rec rd n least epoch = none) (hd : drec rd count n = some (b, e, o)) : e < least ∨ epoch ≤ e := by
  obtain ⟨h1, h2, h3, h4, h5, h6⟩ := drec_is hd
  by_cases hq : e < least ∨ epoch ≤ e
  · exact hq
  · exfalso
    have hb := bytes_le hl h3 o (Nat.le_refl _)
    unfold rec at h
    rw [if_pos ⟨by omega, by omega, by omega, by rw [← h5, ← h6]; exact h3, by rw [← h5]; omega⟩] at h
    cases h
end
end Sp
end Go.Proofs.Ytkfmmdiflbnhgaa
