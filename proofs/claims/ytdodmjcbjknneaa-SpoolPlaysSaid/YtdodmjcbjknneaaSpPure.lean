/-
  Layer 13, pure: the sum of bytes, bit by bit; numbers as bytes, the highest first; a sector of a spool.
-/
import Derived.RowKit
namespace Go.Proofs.Ytdodmjcbjknneaa
set_option maxRecDepth 100000
namespace Sp

/-! ### the sum -/
/-- A sum takes one bit more. -/
def bit (c b : Nat) : Nat := if c / 2147483648 = b then c * 2 % 4294967296 else (c * 2 % 4294967296) ^^^ 79764919
theorem bit_lt (c b : Nat) : bit c b < 4294967296 := by
  unfold bit
  split
  · omega
  · exact Nat.xor_lt_two_pow (n := 32) (by omega) (by omega)
/-- It takes the first k bits of a byte, the highest first. -/
def bits (c x : Nat) : Nat → Nat
  | 0 => c
  | k + 1 => bit (bits c x k) (x / 2 ^ (7 - k) % 2)
theorem bits_lt {c : Nat} (h : c < 4294967296) (x k : Nat) : bits c x k < 4294967296 := by
  cases k with
  | zero => exact h
  | succ k => exact bit_lt _ _
def crc (l : List UInt8) : Nat := l.foldl (fun c x => bits c x.toNat 8) 4294967295
theorem crc_lt (l : List UInt8) : crc l < 4294967296 := by
  suffices h : ∀ (l : List UInt8) (c : Nat), c < 4294967296 → l.foldl (fun c x => bits c x.toNat 8) c < 4294967296 from h l _ (by omega)
  intro l
  induction l with
  | nil => intro c h; exact h
  | cons x l ih => intro c h; exact ih _ (bits_lt h _ _)
theorem crc_take {l : List UInt8} {j : Nat} (h : j < l.length) : crc (l.take (j + 1)) = bits (crc (l.take j)) l[j].toNat 8 := by
  unfold crc
  rw [List.take_succ_eq_append_getElem h, List.foldl_append]
  rfl

/-! ### numbers as bytes -/
/-- A number in k bytes, the highest first. -/
def be : Nat → Nat → List UInt8
  | 0, _ => []
  | k + 1, n => be k (n / 256) ++ [UInt8.ofNat n]
theorem be_len : ∀ (k n : Nat), (be k n).length = k
  | 0, _ => rfl
  | k + 1, n => by rw [be, List.length_append, be_len k]; rfl
theorem be_at : ∀ (k n i : Nat) (h : i < (be k n).length), (be k n)[i] = UInt8.ofNat (n / 256 ^ (k - 1 - i))
  | 0, _, i, h => by simp [be] at h
  | k + 1, n, i, h => by
    rw [be_len] at h
    simp only [be]
    by_cases hi : i < k
    · rw [List.getElem_append_left (by rw [be_len]; exact hi), be_at k (n / 256) i (by rw [be_len]; exact hi), Nat.div_div_eq_div_mul, show k + 1 - 1 - i = (k - 1 - i) + 1 by omega, Nat.pow_succ, Nat.mul_comm 256]
    · obtain rfl : i = k := by omega
      rw [List.getElem_append_right (by rw [be_len]; omega)]
      simp [be_len]
def num (l : List UInt8) : Nat := l.foldl (fun n x => n * 256 + x.toNat) 0
theorem num_one (l : List UInt8) (x : UInt8) : num (l ++ [x]) = num l * 256 + x.toNat := by
  unfold num
  rw [List.foldl_append]
  rfl
theorem num_take {l : List UInt8} {j : Nat} (h : j < l.length) : num (l.take (j + 1)) = num (l.take j) * 256 + l[j].toNat := by
  rw [List.take_succ_eq_append_getElem h, num_one]
theorem num_lt_take (l : List UInt8) : ∀ j, j ≤ l.length → num (l.take j) < 256 ^ j
  | 0, _ => by simp [num]
  | j + 1, h => by
    rw [num_take (by omega), Nat.pow_succ]
    have h1 := num_lt_take l j (by omega)
    have h2 : l[j].toNat < 256 := l[j].toNat_lt
    omega
theorem num_lt (l : List UInt8) : num l < 256 ^ l.length := by
  have := num_lt_take l l.length (Nat.le_refl _)
  rwa [List.take_length] at this
theorem num_be : ∀ (k n : Nat), num (be k n) = n % 256 ^ k
  | 0, n => by simp [be, num, Nat.mod_one]
  | k + 1, n => by
    have e : n % 256 ^ (k + 1) = n % 256 + 256 * (n / 256 % 256 ^ k) := by rw [Nat.pow_succ, Nat.mul_comm (256 ^ k) 256, Nat.mod_mul]
    rw [be, num_one, num_be k, UInt8.toNat_ofNat', e]
    omega
theorem num_be_of {k n : Nat} (h : n < 256 ^ k) : num (be k n) = n := by rw [num_be, Nat.mod_eq_of_lt h]

/-! ### a list that a piece is put into -/
def spl (D : List UInt8) (o : Nat) (c : List UInt8) : List UInt8 := D.take o ++ (c ++ D.drop (o + c.length))
theorem spl_len {D : List UInt8} {o : Nat} {c : List UInt8} (h : o + c.length ≤ D.length) : (spl D o c).length = D.length := by
  simp only [spl, List.length_append, List.length_take, List.length_drop]
  omega
theorem spl_nil (D : List UInt8) (o : Nat) : spl D o [] = D := by simp [spl]
/-- Filled with noughts to 128. -/
def fil (l : List UInt8) : List UInt8 := l ++ List.replicate (128 - l.length) 0
theorem fil_len {l : List UInt8} (h : l.length ≤ 128) : (fil l).length = 128 := by simp [fil]; omega
theorem spl_fil {l c : List UInt8} {o : Nat} (ho : l.length = o) : spl (fil l) o c = fil (l ++ c) := by
  subst ho
  simp only [spl, fil, List.take_left, List.append_assoc, List.length_append]
  rw [show l.length + c.length = l.length + c.length from rfl, List.drop_append]
  simp only [Nat.add_sub_cancel_left, List.drop_eq_nil_of_le (Nat.le_add_right l.length c.length), List.nil_append, List.drop_replicate]
  rw [show 128 - l.length - c.length = 128 - (l.length + c.length) by omega]
theorem part_of (a c r : List UInt8) : ((a ++ (c ++ r)).drop a.length).take c.length = c := by
  rw [List.drop_left, List.take_left]
theorem part_at {a c r : List UInt8} {o k : Nat} (ha : a.length = o) (hc : c.length = k) : ((a ++ (c ++ r)).drop o).take k = c := by
  subst ha hc
  exact part_of a c r

/-! ### a sector -/
def h1 (e : Nat) : List UInt8 := 83 :: be 4 e
def h2 (e n : Nat) : List UInt8 := h1 e ++ be 6 n
def h3 (e n p : Nat) : List UInt8 := h2 e n ++ be 2 p
def h4 (e n p o : Nat) : List UInt8 := h3 e n p ++ be 2 o
def h5 (e n p o : Nat) (own : List UInt8) : List UInt8 := h4 e n p o ++ be 1 own.length
def h6 (e n p o : Nat) (own : List UInt8) : List UInt8 := h5 e n p o own ++ own
/-- The 124 bytes ahead of the sum. -/
def head (e n p o : Nat) (own : List UInt8) : List UInt8 := h6 e n p o own ++ List.replicate (108 - own.length) 0
/-- The sector of an epoch, a number, which of how many, and its own bytes. -/
def secB (e n p o : Nat) (own : List UInt8) : List UInt8 := head e n p o own ++ be 4 (crc (head e n p o own))
section
variable {e n p o : Nat} {own : List UInt8}
theorem h1_len : (h1 e).length = 5 := by simp [h1, be_len]
theorem h2_len : (h2 e n).length = 11 := by rw [h2, List.length_append, h1_len, be_len]
theorem h3_len : (h3 e n p).length = 13 := by rw [h3, List.length_append, h2_len, be_len]
theorem h4_len : (h4 e n p o).length = 15 := by rw [h4, List.length_append, h3_len, be_len]
theorem h5_len : (h5 e n p o own).length = 16 := by rw [h5, List.length_append, h4_len, be_len]
theorem h6_len : (h6 e n p o own).length = 16 + own.length := by rw [h6, List.length_append, h5_len]
theorem head_len (h : own.length ≤ 108) : (head e n p o own).length = 124 := by
  rw [head, List.length_append, h6_len, List.length_replicate]; omega
theorem secB_len (h : own.length ≤ 108) : (secB e n p o own).length = 128 := by
  rw [secB, List.length_append, head_len h, be_len]
theorem fil_head (h : own.length ≤ 108) : fil (h6 e n p o own) = head e n p o own ++ List.replicate 4 0 := by
  rw [fil, h6_len, head, List.append_assoc, List.replicate_append_replicate]
  congr 2
  omega
theorem fil_take (h : own.length ≤ 108) : (fil (h6 e n p o own)).take 124 = head e n p o own := by
  rw [fil_head h, List.take_left' (head_len h)]
theorem fil_end (h : own.length ≤ 108) : spl (fil (h6 e n p o own)) 124 (be 4 (crc (head e n p o own))) = secB e n p o own := by
  rw [fil_head h, spl, List.take_left' (head_len h), be_len, List.drop_eq_nil_of_le (by rw [List.length_append, head_len h, List.length_replicate]; omega), List.append_nil]
  rfl
theorem fil_start : (List.replicate 128 (0 : UInt8)).set 0 83 = fil [83] := by decide +kernel
theorem put1 : spl (fil [83]) 1 (be 4 e) = fil (h1 e) := spl_fil rfl
theorem put2 : spl (fil (h1 e)) 5 (be 6 n) = fil (h2 e n) := spl_fil h1_len
theorem put3 : spl (fil (h2 e n)) 11 (be 2 p) = fil (h3 e n p) := spl_fil h2_len
theorem put4 : spl (fil (h3 e n p)) 13 (be 2 o) = fil (h4 e n p o) := spl_fil h3_len
theorem put5 : spl (fil (h4 e n p o)) 15 (be 1 own.length) = fil (h5 e n p o own) := spl_fil h4_len
theorem put6 : spl (fil (h5 e n p o own)) 16 own = fil (h6 e n p o own) := spl_fil h5_len
theorem sec_split : ∃ r, secB e n p o own = [83] ++ (be 4 e ++ r) := ⟨_, by simp [secB, head, h6, h5, h4, h3, h2, h1]; rfl⟩
theorem sec_split2 : ∃ r, secB e n p o own = h1 e ++ (be 6 n ++ r) := ⟨_, by simp only [secB, head, h6, h5, h4, h3, h2, List.append_assoc]; rfl⟩
theorem sec_split3 : ∃ r, secB e n p o own = h2 e n ++ (be 2 p ++ r) := ⟨_, by simp only [secB, head, h6, h5, h4, h3, List.append_assoc]; rfl⟩
theorem sec_split4 : ∃ r, secB e n p o own = h3 e n p ++ (be 2 o ++ r) := ⟨_, by simp only [secB, head, h6, h5, h4, List.append_assoc]; rfl⟩
theorem sec_split5 : ∃ r, secB e n p o own = h4 e n p o ++ (be 1 own.length ++ r) := ⟨_, by simp only [secB, head, h6, h5, List.append_assoc]; rfl⟩
theorem sec_split6 : ∃ r, secB e n p o own = h5 e n p o own ++ (own ++ r) := ⟨_, by simp only [secB, head, h6, List.append_assoc]; rfl⟩
end

/-! ### what a sector tells -/
def epO (b : List UInt8) : Nat := num ((b.drop 1).take 4)
def nuO (b : List UInt8) : Nat := num ((b.drop 5).take 6)
def paO (b : List UInt8) : Nat := num ((b.drop 11).take 2)
def ofO (b : List UInt8) : Nat := num ((b.drop 13).take 2)
def szO (b : List UInt8) : Nat := num ((b.drop 15).take 1)
def owO (b : List UInt8) : List UInt8 := (b.drop 16).take (szO b)
section
variable {e n p o : Nat} {own b : List UInt8}
theorem epO_sec (h : e < 4294967296) : epO (secB e n p o own) = e := by
  obtain ⟨r, hr⟩ := sec_split (e := e) (n := n) (p := p) (o := o) (own := own)
  rw [epO, hr, part_at (a := [83]) (o := 1) rfl (be_len _ _), num_be_of (by simpa using h)]
theorem nuO_sec (h : n < 281474976710656) : nuO (secB e n p o own) = n := by
  obtain ⟨r, hr⟩ := sec_split2 (e := e) (n := n) (p := p) (o := o) (own := own)
  rw [nuO, hr, part_at h1_len (be_len _ _), num_be_of (by simpa using h)]
theorem paO_sec (h : p < 65536) : paO (secB e n p o own) = p := by
  obtain ⟨r, hr⟩ := sec_split3 (e := e) (n := n) (p := p) (o := o) (own := own)
  rw [paO, hr, part_at h2_len (be_len _ _), num_be_of (by simpa using h)]
theorem ofO_sec (h : o < 65536) : ofO (secB e n p o own) = o := by
  obtain ⟨r, hr⟩ := sec_split4 (e := e) (n := n) (p := p) (o := o) (own := own)
  rw [ofO, hr, part_at h3_len (be_len _ _), num_be_of (by simpa using h)]
theorem szO_sec (h : own.length ≤ 108) : szO (secB e n p o own) = own.length := by
  obtain ⟨r, hr⟩ := sec_split5 (e := e) (n := n) (p := p) (o := o) (own := own)
  rw [szO, hr, part_at h4_len (be_len _ _), num_be_of (by simp; omega)]
theorem owO_sec (h : own.length ≤ 108) : owO (secB e n p o own) = own := by
  obtain ⟨r, hr⟩ := sec_split6 (e := e) (n := n) (p := p) (o := o) (own := own)
  rw [owO, szO_sec h, hr, part_at h5_len rfl]
theorem epO_lt (hb : b.length = 128) : epO b < 4294967296 := by
  have := num_lt ((b.drop 1).take 4)
  simpa [epO, hb] using this
theorem nuO_lt (hb : b.length = 128) : nuO b < 281474976710656 := by
  have := num_lt ((b.drop 5).take 6)
  simpa [nuO, hb] using this
theorem paO_lt (hb : b.length = 128) : paO b < 65536 := by
  have := num_lt ((b.drop 11).take 2)
  simpa [paO, hb] using this
theorem ofO_lt (hb : b.length = 128) : ofO b < 65536 := by
  have := num_lt ((b.drop 13).take 2)
  simpa [ofO, hb] using this
theorem szO_lt (hb : b.length = 128) : szO b < 256 := by
  have := num_lt ((b.drop 15).take 1)
  simpa [szO, hb] using this
theorem owO_len (hb : b.length = 128) (h : szO b ≤ 108) : (owO b).length = szO b := by
  simp [owO, hb]; omega
end

/-! ### records -/
/-- A sector that stands as it must. -/
def Whole (b : List UInt8) : Prop := szO b ≤ 108 ∧ secB (epO b) (nuO b) (paO b) (ofO b) (owO b) = b
/-- A sector that must be one of a record: of an epoch, at a number, which of how many. -/
def Good (b : List UInt8) (e n k o : Nat) : Prop := szO b ≤ 108 ∧ (k + 1 < o → szO b = 108) ∧ b = secB e n k o (owO b)
instance (b : List UInt8) : Decidable (Whole b) := by unfold Whole; infer_instance
instance (b : List UInt8) (e n k o : Nat) : Decidable (Good b e n k o) := by unfold Good; infer_instance
section
variable {e n k o : Nat} {own b : List UInt8}
theorem Good.whole (h : Good b e n k o) (he : e < 4294967296) (hn : n < 281474976710656) (hk : k < 65536) (ho : o < 65536) : Whole b ∧ epO b = e ∧ nuO b = n ∧ paO b = k ∧ ofO b = o := by
  obtain ⟨h1, h2, h3⟩ := h
  have e1 : epO b = e := by rw [h3]; exact epO_sec he
  have e2 : nuO b = n := by rw [h3]; exact nuO_sec hn
  have e3 : paO b = k := by rw [h3]; exact paO_sec hk
  have e4 : ofO b = o := by rw [h3]; exact ofO_sec ho
  exact ⟨⟨h1, by rw [e1, e2, e3, e4]; exact h3.symm⟩, e1, e2, e3, e4⟩
theorem good_of (h : Whole b) (he : epO b = e) (hn : nuO b = n) (hk : paO b = k) (ho : ofO b = o) (hs : k + 1 < o → szO b = 108) : Good b e n k o := by
  subst he hn hk ho
  exact ⟨h.1, hs, h.2.symm⟩
theorem good_sec (h1 : own.length ≤ 108) (h2 : k + 1 < o → own.length = 108) : Good (secB e n k o own) e n k o := by
  refine ⟨by rw [szO_sec h1]; exact h1, fun h => by rw [szO_sec h1]; exact h2 h, by rw [owO_sec h1]⟩
end
/-- All sectors of a record at a number stand there. -/
def All (rd : Nat → List UInt8) (n e o : Nat) : Prop := ∀ k, k < o → Good (rd (n + k)) e (n + k) k o
instance (rd : Nat → List UInt8) (n e o : Nat) : Decidable (All rd n e o) := by unfold All; infer_instance
/-- The bytes of the first k sectors at a number. -/
def bytes (rd : Nat → List UInt8) (n k : Nat) : List UInt8 := (List.range k).flatMap fun j => owO (rd (n + j))
theorem bytes_succ (rd : Nat → List UInt8) (n k : Nat) : bytes rd n (k + 1) = bytes rd n k ++ owO (rd (n + k)) := by simp [bytes, List.range_succ]
theorem bytes_zero (rd : Nat → List UInt8) (n : Nat) : bytes rd n 0 = [] := rfl
/-- The record at a number, as the program looks for it: its bytes, its epoch, how many sectors it has. -/
def rec (rd : Nat → List UInt8) (n least epoch : Nat) : Option (List UInt8 × Nat × Nat) :=
  if 0 < ofO (rd n) ∧ least ≤ epO (rd n) ∧ epO (rd n) < epoch ∧ All rd n (epO (rd n)) (ofO (rd n)) ∧ (bytes rd n (ofO (rd n))).length ≤ 60000 then some (bytes rd n (ofO (rd n)), epO (rd n), ofO (rd n)) else none
/-- What is found from a number on, up to one: the records, and the number behind them. -/
def find (rd : Nat → List UInt8) (stop epoch : Nat) : Nat → Nat → Nat → List (List UInt8) × Nat
  | 0, n, _ => ([], n)
  | f + 1, n, least => if n < stop then match rec rd n least epoch with
    | none => ([], n)
    | some (b, e, o) => let r := find rd stop epoch f (n + o) e; (b :: r.1, r.2)
    else ([], n)
end Sp
end Go.Proofs.Ytdodmjcbjknneaa
