/-
  Layer 13, pure: the sum of bytes, bit by bit; numbers as bytes, the highest first; a sector of a spool.
  Layer 13: the program's Sum.
  Layer 13: the program's put, take, partsOf.
-/
import Derived.RowKit
import Derived.Test.YtkfmmdiflbnhgaaTgF
import Derived.Laws.Bits64
import Derived.BigQuiet
import Derived.Deep.DeepCutAuto
namespace Go.Proofs.Ytkfmmdiflbnhgaa
set_option maxRecDepth 100000
namespace Sp

/-! ### the sum -/
/-- A sum takes one bit more. -/
def bit (c b : Nat) : Nat := if c / 2147483648 = b then c * 2 % 4294967296 else (c * 2 % 4294967296) ^^^ 79764919
theorem bit_lt (c b : Nat) : bit c b < 4294967296 := by
  unfold bit
  split
  · omega
  · exact Nat.xor_lt_two_pow (n := 32) (by omega) (by omega)
/-- It takes the first k bits of a byte, the highest first. -/
def bits (c x : Nat) : Nat → Nat
  | 0 => c
  | k + 1 => bit (bits c x k) (x / 2 ^ (7 - k) % 2)
theorem bits_lt {c : Nat} (h : c < 4294967296) (x k : Nat) : bits c x k < 4294967296 := by
  cases k with
  | zero => exact h
  | succ k => exact bit_lt _ _
def crc (l : List UInt8) : Nat := l.foldl (fun c x => bits c x.toNat 8) 4294967295
theorem crc_lt (l : List UInt8) : crc l < 4294967296 := by
  suffices h : ∀ (l : List UInt8) (c : Nat), c < 4294967296 → l.foldl (fun c x => bits c x.toNat 8) c < 4294967296 from h l _ (by omega)
  intro l
  induction l with
  | nil => intro c h; exact h
  | cons x l ih => intro c h; exact ih _ (bits_lt h _ _)
theorem crc_take {l : List UInt8} {j : Nat} (h : j < l.length) : crc (l.take (j + 1)) = bits (crc (l.take j)) l[j].toNat 8 := by
  unfold crc
  rw [List.take_succ_eq_append_getElem h, List.foldl_append]
  rfl

/-! ### numbers as bytes -/
/-- A number in k bytes, the highest first. -/
def be : Nat → Nat → List UInt8
  | 0, _ => []
  | k + 1, n => be k (n / 256) ++ [UInt8.ofNat n]
theorem be_len : ∀ (k n : Nat), (be k n).length = k
  | 0, _ => rfl
  | k + 1, n => by rw [be, List.length_append, be_len k]; rfl
theorem be_at : ∀ (k n i : Nat) (h : i < (be k n).length), (be k n)[i] = UInt8.ofNat (n / 256 ^ (k - 1 - i))
  | 0, _, i, h => by simp [be] at h
  | k + 1, n, i, h => by
    rw [be_len] at h
    simp only [be]
    by_cases hi : i < k
    · rw [List.getElem_append_left (by rw [be_len]; exact hi), be_at k (n / 256) i (by rw [be_len]; exact hi), Nat.div_div_eq_div_mul, show k + 1 - 1 - i = (k - 1 - i) + 1 by omega, Nat.pow_succ, Nat.mul_comm 256]
    · obtain rfl : i = k := by omega
      rw [List.getElem_append_right (by rw [be_len]; omega)]
      simp [be_len]
def num (l : List UInt8) : Nat := l.foldl (fun n x => n * 256 + x.toNat) 0
theorem num_one (l : List UInt8) (x : UInt8) : num (l ++ [x]) = num l * 256 + x.toNat := by
  unfold num
  rw [List.foldl_append]
  rfl
theorem num_take {l : List UInt8} {j : Nat} (h : j < l.length) : num (l.take (j + 1)) = num (l.take j) * 256 + l[j].toNat := by
  rw [List.take_succ_eq_append_getElem h, num_one]
theorem num_lt_take (l : List UInt8) : ∀ j, j ≤ l.length → num (l.take j) < 256 ^ j
  | 0, _ => by simp [num]
  | j + 1, h => by
    rw [num_take (by omega), Nat.pow_succ]
    have h1 := num_lt_take l j (by omega)
    have h2 : l[j].toNat < 256 := l[j].toNat_lt
    omega
theorem num_lt (l : List UInt8) : num l < 256 ^ l.length := by
  have := num_lt_take l l.length (Nat.le_refl _)
  rwa [List.take_length] at this
theorem num_be : ∀ (k n : Nat), num (be k n) = n % 256 ^ k
  | 0, n => by simp [be, num, Nat.mod_one]
  | k + 1, n => by
    have e : n % 256 ^ (k + 1) = n % 256 + 256 * (n / 256 % 256 ^ k) := by rw [Nat.pow_succ, Nat.mul_comm (256 ^ k) 256, Nat.mod_mul]
    rw [be, num_one, num_be k, UInt8.toNat_ofNat', e]
    omega
theorem num_be_of {k n : Nat} (h : n < 256 ^ k) : num (be k n) = n := by rw [num_be, Nat.mod_eq_of_lt h]

/-! ### a list that a piece is put into -/
def spl (D : List UInt8) (o : Nat) (c : List UInt8) : List UInt8 := D.take o ++ (c ++ D.drop (o + c.length))
theorem spl_len {D : List UInt8} {o : Nat} {c : List UInt8} (h : o + c.length ≤ D.length) : (spl D o c).length = D.length := by
  simp only [spl, List.length_append, List.length_take, List.length_drop]
  omega
theorem spl_nil (D : List UInt8) (o : Nat) : spl D o [] = D := by simp [spl]
/-- Filled with noughts to 128. -/
def fil (l : List UInt8) : List UInt8 := l ++ List.replicate (128 - l.length) 0
theorem fil_len {l : List UInt8} (h : l.length ≤ 128) : (fil l).length = 128 := by simp [fil]; omega
theorem spl_fil {l c : List UInt8} {o : Nat} (ho : l.length = o) : spl (fil l) o c = fil (l ++ c) := by
  subst ho
  simp only [spl, fil, List.take_left, List.append_assoc, List.length_append]
  rw [show l.length + c.length = l.length + c.length from rfl, List.drop_append]
  simp only [Nat.add_sub_cancel_left, List.drop_eq_nil_of_le (Nat.le_add_right l.length c.length), List.nil_append, List.drop_replicate]
  rw [show 128 - l.length - c.length = 128 - (l.length + c.length) by omega]
theorem part_of (a c r : List UInt8) : ((a ++ (c ++ r)).drop a.length).take c.length = c := by
  rw [List.drop_left, List.take_left]
theorem part_at {a c r : List UInt8} {o k : Nat} (ha : a.length = o) (hc : c.length = k) : ((a ++ (c ++ r)).drop o).take k = c := by
  subst ha hc
  exact part_of a c r

/-! ### a sector -/
def h1 (e : Nat) : List UInt8 := 83 :: be 4 e
def h2 (e n : Nat) : List UInt8 := h1 e ++ be 6 n
def h3 (e n p : Nat) : List UInt8 := h2 e n ++ be 2 p
def h4 (e n p o : Nat) : List UInt8 := h3 e n p ++ be 2 o
def h5 (e n p o : Nat) (own : List UInt8) : List UInt8 := h4 e n p o ++ be 1 own.length
def h6 (e n p o : Nat) (own : List UInt8) : List UInt8 := h5 e n p o own ++ own
/-- The 124 bytes ahead of the sum. -/
def head (e n p o : Nat) (own : List UInt8) : List UInt8 := h6 e n p o own ++ List.replicate (108 - own.length) 0
/-- The sector of an epoch, a number, which of how many, and its own bytes. -/
def secB (e n p o : Nat) (own : List UInt8) : List UInt8 := head e n p o own ++ be 4 (crc (head e n p o own))
section
variable {e n p o : Nat} {own : List UInt8}
theorem h1_len : (h1 e).length = 5 := by simp [h1, be_len]
theorem h2_len : (h2 e n).length = 11 := by rw [h2, List.length_append, h1_len, be_len]
theorem h3_len : (h3 e n p).length = 13 := by rw [h3, List.length_append, h2_len, be_len]
theorem h4_len : (h4 e n p o).length = 15 := by rw [h4, List.length_append, h3_len, be_len]
theorem h5_len : (h5 e n p o own).length = 16 := by rw [h5, List.length_append, h4_len, be_len]
theorem h6_len : (h6 e n p o own).length = 16 + own.length := by rw [h6, List.length_append, h5_len]
theorem head_len (h : own.length ≤ 108) : (head e n p o own).length = 124 := by
  rw [head, List.length_append, h6_len, List.length_replicate]; omega
theorem secB_len (h : own.length ≤ 108) : (secB e n p o own).length = 128 := by
  rw [secB, List.length_append, head_len h, be_len]
theorem fil_head (h : own.length ≤ 108) : fil (h6 e n p o own) = head e n p o own ++ List.replicate 4 0 := by
  rw [fil, h6_len, head, List.append_assoc, List.replicate_append_replicate]
  congr 2
  omega
theorem fil_take (h : own.length ≤ 108) : (fil (h6 e n p o own)).take 124 = head e n p o own := by
  rw [fil_head h, List.take_left' (head_len h)]
theorem fil_end (h : own.length ≤ 108) : spl (fil (h6 e n p o own)) 124 (be 4 (crc (head e n p o own))) = secB e n p o own := by
  rw [fil_head h, spl, List.take_left' (head_len h), be_len, List.drop_eq_nil_of_le (by rw [List.length_append, head_len h, List.length_replicate]; omega), List.append_nil]
  rfl
theorem fil_start : (List.replicate 128 (0 : UInt8)).set 0 83 = fil [83] := by decide +kernel
theorem put1 : spl (fil [83]) 1 (be 4 e) = fil (h1 e) := spl_fil rfl
theorem put2 : spl (fil (h1 e)) 5 (be 6 n) = fil (h2 e n) := spl_fil h1_len
theorem put3 : spl (fil (h2 e n)) 11 (be 2 p) = fil (h3 e n p) := spl_fil h2_len
theorem put4 : spl (fil (h3 e n p)) 13 (be 2 o) = fil (h4 e n p o) := spl_fil h3_len
theorem put5 : spl (fil (h4 e n p o)) 15 (be 1 own.length) = fil (h5 e n p o own) := spl_fil h4_len
theorem put6 : spl (fil (h5 e n p o own)) 16 own = fil (h6 e n p o own) := spl_fil h5_len
theorem sec_split : ∃ r, secB e n p o own = [83] ++ (be 4 e ++ r) := ⟨_, by simp [secB, head, h6, h5, h4, h3, h2, h1]; rfl⟩
theorem sec_split2 : ∃ r, secB e n p o own = h1 e ++ (be 6 n ++ r) := ⟨_, by simp only [secB, head, h6, h5, h4, h3, h2, List.append_assoc]; rfl⟩
theorem sec_split3 : ∃ r, secB e n p o own = h2 e n ++ (be 2 p ++ r) := ⟨_, by simp only [secB, head, h6, h5, h4, h3, List.append_assoc]; rfl⟩
theorem sec_split4 : ∃ r, secB e n p o own = h3 e n p ++ (be 2 o ++ r) := ⟨_, by simp only [secB, head, h6, h5, h4, List.append_assoc]; rfl⟩
theorem sec_split5 : ∃ r, secB e n p o own = h4 e n p o ++ (be 1 own.length ++ r) := ⟨_, by simp only [secB, head, h6, h5, List.append_assoc]; rfl⟩
theorem sec_split6 : ∃ r, secB e n p o own = h5 e n p o own ++ (own ++ r) := ⟨_, by simp only [secB, head, h6, List.append_assoc]; rfl⟩
end

/-! ### what a sector tells -/
def epO (b : List UInt8) : Nat := num ((b.drop 1).take 4)
def nuO (b : List UInt8) : Nat := num ((b.drop 5).take 6)
def paO (b : List UInt8) : Nat := num ((b.drop 11).take 2)
def ofO (b : List UInt8) : Nat := num ((b.drop 13).take 2)
def szO (b : List UInt8) : Nat := num ((b.drop 15).take 1)
def owO (b : List UInt8) : List UInt8 := (b.drop 16).take (szO b)
section
variable {e n p o : Nat} {own b : List UInt8}
theorem epO_sec (h : e < 4294967296) : epO (secB e n p o own) = e := by
  obtain ⟨r, hr⟩ := sec_split (e := e) (n := n) (p := p) (o := o) (own := own)
  rw [epO, hr, part_at (a := [83]) (o := 1) rfl (be_len _ _), num_be_of (by simpa using h)]
theorem nuO_sec (h : n < 281474976710656) : nuO (secB e n p o own) = n := by
  obtain ⟨r, hr⟩ := sec_split2 (e := e) (n := n) (p := p) (o := o) (own := own)
  rw [nuO, hr, part_at h1_len (be_len _ _), num_be_of (by simpa using h)]
theorem paO_sec (h : p < 65536) : paO (secB e n p o own) = p := by
  obtain ⟨r, hr⟩ := sec_split3 (e := e) (n := n) (p := p) (o := o) (own := own)
  rw [paO, hr, part_at h2_len (be_len _ _), num_be_of (by simpa using h)]
theorem ofO_sec (h : o < 65536) : ofO (secB e n p o own) = o := by
  obtain ⟨r, hr⟩ := sec_split4 (e := e) (n := n) (p := p) (o := o) (own := own)
  rw [ofO, hr, part_at h3_len (be_len _ _), num_be_of (by simpa using h)]
theorem szO_sec (h : own.length ≤ 108) : szO (secB e n p o own) = own.length := by
  obtain ⟨r, hr⟩ := sec_split5 (e := e) (n := n) (p := p) (o := o) (own := own)
  rw [szO, hr, part_at h4_len (be_len _ _), num_be_of (by simp; omega)]
theorem owO_sec (h : own.length ≤ 108) : owO (secB e n p o own) = own := by
  obtain ⟨r, hr⟩ := sec_split6 (e := e) (n := n) (p := p) (o := o) (own := own)
  rw [owO, szO_sec h, hr, part_at h5_len rfl]
theorem epO_lt (hb : b.length = 128) : epO b < 4294967296 := by
  have := num_lt ((b.drop 1).take 4)
  simpa [epO, hb] using this
theorem nuO_lt (hb : b.length = 128) : nuO b < 281474976710656 := by
  have := num_lt ((b.drop 5).take 6)
  simpa [nuO, hb] using this
theorem paO_lt (hb : b.length = 128) : paO b < 65536 := by
  have := num_lt ((b.drop 11).take 2)
  simpa [paO, hb] using this
theorem ofO_lt (hb : b.length = 128) : ofO b < 65536 := by
  have := num_lt ((b.drop 13).take 2)
  simpa [ofO, hb] using this
theorem szO_lt (hb : b.length = 128) : szO b < 256 := by
  have := num_lt ((b.drop 15).take 1)
  simpa [szO, hb] using this
theorem owO_len (hb : b.length = 128) (h : szO b ≤ 108) : (owO b).length = szO b := by
  simp [owO, hb]; omega
end

/-! ### records -/
/-- A sector that stands as it must. -/
def Whole (b : List UInt8) : Prop := szO b ≤ 108 ∧ secB (epO b) (nuO b) (paO b) (ofO b) (owO b) = b
/-- A sector that must be one of a record: of an epoch, at a number, which of how many. -/
def Good (b : List UInt8) (e n k o : Nat) : Prop := szO b ≤ 108 ∧ (k + 1 < o → szO b = 108) ∧ b = secB e n k o (owO b)
instance (b : List UInt8) : Decidable (Whole b) := by unfold Whole; infer_instance
instance (b : List UInt8) (e n k o : Nat) : Decidable (Good b e n k o) := by unfold Good; infer_instance
section
variable {e n k o : Nat} {own b : List UInt8}
theorem Good.whole (h : Good b e n k o) (he : e < 4294967296) (hn : n < 281474976710656) (hk : k < 65536) (ho : o < 65536) : Whole b ∧ epO b = e ∧ nuO b = n ∧ paO b = k ∧ ofO b = o := by
  obtain ⟨h1, h2, h3⟩ := h
  have e1 : epO b = e := by rw [h3]; exact epO_sec he
  have e2 : nuO b = n := by rw [h3]; exact nuO_sec hn
  have e3 : paO b = k := by rw [h3]; exact paO_sec hk
  have e4 : ofO b = o := by rw [h3]; exact ofO_sec ho
  exact ⟨⟨h1, by rw [e1, e2, e3, e4]; exact h3.symm⟩, e1, e2, e3, e4⟩
theorem good_of (h : Whole b) (he : epO b = e) (hn : nuO b = n) (hk : paO b = k) (ho : ofO b = o) (hs : k + 1 < o → szO b = 108) : Good b e n k o := by
  subst he hn hk ho
  exact ⟨h.1, hs, h.2.symm⟩
theorem good_sec (h1 : own.length ≤ 108) (h2 : k + 1 < o → own.length = 108) : Good (secB e n k o own) e n k o := by
  refine ⟨by rw [szO_sec h1]; exact h1, fun h => by rw [szO_sec h1]; exact h2 h, by rw [owO_sec h1]⟩
end
/-- All sectors of a record at a number stand there. -/
def All (rd : Nat → List UInt8) (n e o : Nat) : Prop := ∀ k, k < o → Good (rd (n + k)) e (n + k) k o
instance (rd : Nat → List UInt8) (n e o : Nat) : Decidable (All rd n e o) := by unfold All; infer_instance
/-- The bytes of the first k sectors at a number. -/
def bytes (rd : Nat → List UInt8) (n k : Nat) : List UInt8 := (List.range k).flatMap fun j => owO (rd (n + j))
theorem bytes_succ (rd : Nat → List UInt8) (n k : Nat) : bytes rd n (k + 1) = bytes rd n k ++ owO (rd (n + k)) := by simp [bytes, List.range_succ]
theorem bytes_zero (rd : Nat → List UInt8) (n : Nat) : bytes rd n 0 = [] := rfl
/-- The record at a number, as the program looks for it: its bytes, its epoch, how many sectors it has. -/
def rec (rd : Nat → List UInt8) (n least epoch : Nat) : Option (List UInt8 × Nat × Nat) :=
  if 0 < ofO (rd n) ∧ least ≤ epO (rd n) ∧ epO (rd n) < epoch ∧ All rd n (epO (rd n)) (ofO (rd n)) ∧ (bytes rd n (ofO (rd n))).length ≤ 60000 then some (bytes rd n (ofO (rd n)), epO (rd n), ofO (rd n)) else none
/-- What is found from a number on, up to one: the records, and the number behind them. -/
def find (rd : Nat → List UInt8) (stop epoch : Nat) : Nat → Nat → Nat → List (List UInt8) × Nat
  | 0, n, _ => ([], n)
  | f + 1, n, least => if n < stop then match rec rd n least epoch with
    | none => ([], n)
    | some (b, e, o) => let r := find rd stop epoch f (n + o) e; (b :: r.1, r.2)
    else ([], n)
end Sp
end Go.Proofs.Ytkfmmdiflbnhgaa

namespace Go.Proofs.Ytkfmmdiflbnhgaa
set_option maxRecDepth 100000
open Go.RowKit
open Ta (IsBytes)
namespace Sp
theorem xor_u32 (a b : Nat) (ha : a < 4294967296) (hb : b < 4294967296) : Go.bits .xor .u32 (a : Int) (b : Int) = ((a ^^^ b : Nat) : Int) := by
  have hx : a ^^^ b < 2 ^ 32 := Nat.xor_lt_two_pow (by omega) (by omega)
  have h1 : (BitVec.ofInt 32 (a : Int)).toNat = a := by
    rw [BitVec.ofInt_natCast, BitVec.toNat_ofNat]; exact Nat.mod_eq_of_lt (by omega)
  have h2 : (BitVec.ofInt 32 (b : Int)).toNat = b := by
    rw [BitVec.ofInt_natCast, BitVec.toNat_ofNat]; exact Nat.mod_eq_of_lt (by omega)
  show IntKind.u32.wrap ((BitVec.ofInt 32 (a : Int) ^^^ BitVec.ofInt 32 (b : Int)).toNat : Int) = _
  rw [BitVec.toNat_xor, h1, h2]
  generalize a ^^^ b = c at *
  simp [IntKind.wrap, IntKind.bits, IntKind.signed]
  omega
theorem and_one (a : Nat) (ha : a < 256) : Go.bits .and .u8 (a : Int) 1 = ((a % 2 : Nat) : Int) := by
  have h1 : (BitVec.ofInt 8 (a : Int)).toNat = a := by
    rw [BitVec.ofInt_natCast, BitVec.toNat_ofNat]; exact Nat.mod_eq_of_lt (by omega)
  show IntKind.u8.wrap ((BitVec.ofInt 8 (a : Int) &&& BitVec.ofInt 8 1).toNat : Int) = _
  rw [BitVec.toNat_and, h1, show (BitVec.ofInt 8 1).toNat = 1 from rfl, Nat.and_one_is_mod]
  simp [IntKind.wrap, IntKind.bits, IntKind.signed]
  omega
set_option maxHeartbeats 4000000 in
set_option maxRecDepth 100000 in
theorem sum_any (v : Value) (l : List UInt8) (w : World) (h : IsBytes w v l) : Calls Try.prog 15 #[v] w fun e x => e = .returned (.int .u32 (crc l : Nat)) ∧ Below w.heap.size w x := by
  have H := Lib.hid h
  obtain ⟨ao, cap, rfl, h1, h2, -⟩ := h
  have hbig : l.length ≤ 9223372036854775807 := by unfold maxLen at h2; omega
  clear h1 h2
  go_enter Try.func15, Try.ntmps15
  go_wp2_with fail
  go_loopw [3, 11] (fun c i x => ∃ j : Nat, j ≤ l.length ∧ i = .int .i64 (j : Int) ∧ c = .int .u32 (crc (l.take j) : Nat) ∧ Hid (Below w.heap.size w x)) (fun _ i _ => l.length - (intOf i).toNat)
  case atStart => exact ⟨0, by omega, rfl, rfl, Below.refl _ _⟩
  case round =>
    obtain ⟨j, hj, rfl, rfl, HB⟩ := hrel
    by_cases hlt : j < l.length
    · obtain ⟨g, q, hix, hc⟩ := Ta.byte_at (Ta.IsBytes.below H.out HB.out) hlt
      have hl := crc_lt (l.take j)
      have HT := Lib.hid (crc_take hlt)
      have hb : l[j].toNat < 256 := l[j].toNat_lt
      generalize crc (l.take j) = C at *
      generalize l[j].toNat = B at *
      go_wp2_with fail
      go_loopw [3, 15] (fun c i x => ∃ k : Nat, k ≤ 8 ∧ i = .int .i64 (k : Int) ∧ c = .int .u32 (bits C B k : Nat) ∧ Hid (Below w.heap.size w x)) (fun _ i _ => 8 - (intOf i).toNat)
      case atStart => exact ⟨0, by omega, rfl, rfl, HB.out⟩
      case round =>
        obtain ⟨k, hk, rfl, rfl, HB2⟩ := hrel
        by_cases hk8 : k < 8
        · have hcl := bits_lt hl B k
          have hs : bits C B (k + 1) = bit (bits C B k) (B / 2 ^ (7 - k) % 2) := rfl
          have hp : ((B : Int) / 2 ^ (7 - k)) = ((B / 2 ^ (7 - k) : Nat) : Int) := by simp
          have ha := and_one (B / 2 ^ (7 - k)) (Nat.lt_of_le_of_lt (Nat.div_le_self _ _) hb)
          rw [← hp] at ha
          generalize bits C B k = D at *
          generalize B / 2 ^ (7 - k) % 2 = E at *
          clear hp
          have hw : ((D : Int) * 2 % 4294967296) = ((D * 2 % 4294967296 : Nat) : Int) := by omega
          have hx := xor_u32 (D * 2 % 4294967296) 79764919 (by omega) (by omega)
          rw [← hw] at hx
          by_cases hE : D / 2147483648 = E
          · have e1 : ((D : Int) / 2147483648 == Go.bits .and .u8 ((B : Int) / 2 ^ (7 - k)) 1) = true := by rw [ha, beq_iff_eq]; omega
            have e2 : ((D : Int) / 2147483648 != Go.bits .and .u8 ((B : Int) / 2 ^ (7 - k)) 1) = false := by rw [bne, e1]; rfl
            have hs' : bits C B (k + 1) = D * 2 % 4294967296 := by rw [hs, bit, if_pos hE]
            have HS := Lib.hid (And.intro hs' hw)
            clear hs hs' hx hw hE ha
            go_wp2_with fail
            go_quiet (fail)
            go_wp2_with fail
            go_roundw
            case rel => exact ⟨k + 1, by omega, by go_num, by rw [HS.out.1]; go_num, below_drewN HB2.out _⟩
            case measure => simp [intOf]; omega
          · have e1 : ((D : Int) / 2147483648 == Go.bits .and .u8 ((B : Int) / 2 ^ (7 - k)) 1) = false := by rw [ha, beq_eq_false_iff_ne]; omega
            have e2 : ((D : Int) / 2147483648 != Go.bits .and .u8 ((B : Int) / 2 ^ (7 - k)) 1) = true := by rw [bne, e1]; rfl
            have hs' : bits C B (k + 1) = (D * 2 % 4294967296) ^^^ 79764919 := by rw [hs, bit, if_neg hE]
            have HS := Lib.hid (And.intro hs' hw)
            clear hs hs' hw hE ha
            have HX := Lib.hid hx
            clear hx
            go_wp2_with fail
            go_quiet (fail)
            go_wp2_with fail
            go_roundw
            case rel => exact ⟨k + 1, by omega, by go_num, by rw [HS.out.1]; exact congrArg _ HX.out, below_drewN HB2.out _⟩
            case measure => simp [intOf]; omega
        · obtain rfl : k = 8 := by omega
          go_wp2_with fail
          go_roundw
          case rel => exact ⟨j + 1, by omega, by go_num, by rw [HT.out], HB2.out⟩
          case measure => simp [intOf]; omega
    · obtain rfl : j = l.length := by omega
      rw [List.take_length]
      go_wp2_with fail
      go_ret
      exact ⟨rfl, HB.out⟩
end Sp
end Go.Proofs.Ytkfmmdiflbnhgaa

namespace Go.Proofs.Ytkfmmdiflbnhgaa
set_option maxRecDepth 100000
open Go.RowKit
open Knot (Turns)
open Ta (IsBytes sec)
namespace Sp
/-- A slice of bytes that lie in a block's cells. -/
theorem idx_at (g o m cap i : Nat) (h : i < m) (_hm : m ≤ 9223372036854775807) (W : World) : (Instr.indexAt 22 (.slice (some ⟨g, o, none⟩) m cap) (.int .i64 (i : Int))).run Try.prog W = .ok (.pointer (some ⟨g, o + i, none⟩)) W := by
  have hz : ∀ w, (sizeOf (Try.prog.elem 22)).run Try.prog w = .ok 1 w := fun w => by kernel_rfl
  rw [run_indexAt_slice W _ _ _ _ _ _ Try.underlying22, if_pos ⟨by omega, by omega⟩, hz]
  have e : ((i : Int)).toNat = i := by omega
  simp only [Result.andThen_ok, e, Addr.add_lit, Nat.mul_one]
/-- A block of 128 bytes, of whatever type. -/
def Blk (w : World) (g : Nat) (T : TypeId) (D : List UInt8) : Prop := w.heap[g]? = some (.cells (sec D) T (0, 0))
section
variable {w x : World} {g : Nat} {T : TypeId} {D : List UInt8}
theorem Blk.lt (h : Blk w g T D) : g < w.heap.size := (Array.getElem?_eq_some_iff.1 h).1
theorem Blk.on (h : Blk w g T D) (hb : Below w.heap.size w x) : Blk x g T D := (hb.block g h.lt).trans h
theorem Blk.turn {F : Nat → Prop} (h : Blk w g T D) (ht : Turns F w x) (hF : ¬ F g) : Blk x g T D := ht.heap h hF
theorem Blk.cell (h : Blk w g T D) {j : Nat} (hj : j < D.length) : w.cell? ⟨g, j, none⟩ = some (.int .u8 (D[j].toNat : Nat)) := by
  rw [Lib.cell_of_heap h]
  simp [sec, Lib.byteCells, hj]
theorem Blk.free (h : Blk w g T D) (j : Nat) : w.frozen? ⟨g, j, none⟩ = false := Lib.frozen_of_heap h j
theorem Blk.set (h : Blk w g T D) (j : Nat) (u : UInt8) : Blk (w.setCell ⟨g, j, none⟩ (.int .u8 (u.toNat : Nat))) g T (D.set j u) := by
  have := heap_setCell_same w g j (sec D) T (.int .u8 (u.toNat : Nat)) h
  unfold Blk
  rw [this]
  congr 2
  simp [sec, Lib.byteCells, List.map_set]
/-- Bytes that lie in a block. -/
theorem Blk.bytes (h : Blk w g T D) {o m cap : Nat} (ho : o + m ≤ D.length) (hc : m ≤ cap) (hcm : cap ≤ maxLen) : IsBytes w (.slice (some ⟨g, o, none⟩) m cap) ((D.drop o).take m) := by
  have e : ((D.drop o).take m).length = m := by simp; omega
  refine ⟨some ⟨g, o, none⟩, cap, by rw [e], by omega, hcm, fun _ => ⟨g, o, rfl, fun j u hu => ?_⟩⟩
  have hj := (List.getElem?_eq_some_iff.1 hu).1
  rw [Lib.byteCells_length, e] at hj
  rw [h.cell (by omega), ← hu]
  simp only [Lib.byteCells, List.getElem?_map, List.getElem?_take, hj, if_true, List.getElem?_drop]
  rw [List.getElem?_eq_getElem (by omega)]
  rfl
end
theorem part_set {D c : List UInt8} {o i : Nat} (h : i < c.length) (ho : o + c.length ≤ D.length) : (spl D (o + i) (c.drop i)) = (spl D (o + i + 1) (c.drop (i + 1))).set (o + i) c[i] := by
  have e : c.drop i = c[i] :: c.drop (i + 1) := List.drop_eq_getElem_cons h
  have hl : o + i < D.length := by omega
  have e1 : D.take (o + i + 1) = D.take (o + i) ++ [D[o + i]] := List.take_succ_eq_append_getElem hl
  have e2 : (D.take (o + i)).length = o + i := by rw [List.length_take]; omega
  have e3 : o + i + (c.drop i).length = o + i + 1 + (c.drop (i + 1)).length := by simp only [List.length_drop]; omega
  unfold spl
  rw [e3, e1, List.append_assoc, List.set_append_right _ _ (by rw [e2]; exact Nat.le_refl _), e2, Nat.sub_self, e]
  rfl
set_option maxHeartbeats 4000000 in
set_option maxRecDepth 100000 in
theorem put_any (g o m cap : Nat) (n : Nat) (T : TypeId) (D : List UInt8) (w : World) (h : Blk w g T D) (hd : D.length = 128) (ho : o + m ≤ 128) (hm : m ≤ 6) (_hn : n < 9223372036854775808) :
    Calls Try.prog 91 #[.slice (some ⟨g, o, none⟩) m cap, .int .i64 (n : Int)] w fun e x => e = .returned (.tuple #[]) ∧ Turns (fun k => k = g) w x ∧ x.heap.size = w.heap.size ∧ Blk x g T (spl D o (be m n)) := by
  have hix := idx_at g o m cap
  go_enter Try.func91, Try.ntmps91
  go_wp2_with fail
  go_loopw [7] (fun i x => ∃ j : Nat, j ≤ m ∧ i = .int .i64 (j : Int) ∧ Hid (Turns (fun k => k = g) w x ∧ x.heap.size = w.heap.size ∧ Blk x g T (spl D (o + (m - j)) ((be m n).drop (m - j))))) (fun i _ => m - (intOf i).toNat)
  case atStart => exact ⟨0, by omega, rfl, Turns.refl _ _, rfl, by rw [Nat.sub_zero, List.drop_eq_nil_of_le (by rw [be_len]; omega), spl_nil]; exact h⟩
  case round =>
    obtain ⟨j, hj, rfl, HX⟩ := hrel
    by_cases hlt : j < m
    · have hi := hix (m - 1 - j) (by omega) (by omega)
      have hbl : (be m n).length = m := be_len _ _
      have hsl : (spl D (o + (m - j)) ((be m n).drop (m - j))).length = 128 := by rw [spl_len (by simp [hbl, hd]; omega), hd]
      have hf := HX.out.2.2.free (o + (m - 1 - j))
      have hc := HX.out.2.2.cell (j := o + (m - 1 - j)) (by omega)
      have hv : (n : Int) / 2 ^ (8 * j) % 256 = (((be m n)[m - 1 - j]'(by omega)).toNat : Nat) := by
        rw [be_at, UInt8.toNat_ofNat', show m - 1 - (m - 1 - j) = j by omega, show (256 : Nat) ^ j = 2 ^ (8 * j) by rw [Nat.pow_mul]]
        simp
      have hn := HX.out.2.2.set (o + (m - 1 - j)) ((be m n)[m - 1 - j]'(by omega))
      rw [show m - j = (m - 1 - j) + 1 by omega, ← Nat.add_assoc, ← part_set (D := D) (c := be m n) (o := o) (i := m - 1 - j) (by omega) (by omega)] at hn
      have HV := Lib.hid (And.intro hv hn)
      have ht := HX.out.1.setCell (p := ⟨g, o + (m - 1 - j), none⟩) rfl (.int .u8 (((be m n)[m - 1 - j]'(by omega)).toNat : Nat))
      have HT := Lib.hid ht
      clear hv hn ht hix
      go_wp2_with fail
      go_roundw
      case rel =>
        rw [HV.out.1]
        refine ⟨j + 1, by omega, by go_num, HT.out, by rw [← HX.out.2.1]; simp [World.setCell], ?_⟩
        rw [show m - (j + 1) = m - 1 - j by omega]
        exact HV.out.2
      case measure => simp [intOf]; omega
    · obtain rfl : j = m := by omega
      go_wp2_with fail
      go_end0
      refine ⟨rfl, HX.out.1, HX.out.2.1, ?_⟩
      have := HX.out.2.2
      rwa [Nat.sub_self, Nat.add_zero, List.drop_zero] at this
theorem or_i64 (C B : Nat) (hC : C < 1099511627776) (hB : B < 256) : Go.bits .or .i64 ((C : Int) * 256) (B : Int) = ((C * 256 + B : Nat) : Int) := by
  have h1 : (BitVec.ofInt 64 ((C : Int) * 256)).toNat = C * 256 := by
    rw [show ((C : Int) * 256) = ((C * 256 : Nat) : Int) by omega, BitVec.ofInt_natCast, BitVec.toNat_ofNat]; exact Nat.mod_eq_of_lt (by omega)
  have h2 : (BitVec.ofInt 64 (B : Int)).toNat = B := by
    rw [BitVec.ofInt_natCast, BitVec.toNat_ofNat]; exact Nat.mod_eq_of_lt (by omega)
  show IntKind.i64.wrap ((BitVec.ofInt 64 ((C : Int) * 256) ||| BitVec.ofInt 64 (B : Int)).toNat : Int) = _
  rw [BitVec.toNat_or, h1, h2, show C * 256 = 2 ^ 8 * C by omega, ← Nat.two_pow_add_eq_or_of_lt (by omega), IntKind.wrap_i64] <;> omega
set_option maxHeartbeats 4000000 in
set_option maxRecDepth 100000 in
theorem take_any (v : Value) (l : List UInt8) (w : World) (h : IsBytes w v l) (hl : l.length ≤ 6) : Calls Try.prog 95 #[v] w fun e x => e = .returned (.int .i64 (num l : Nat)) ∧ x = w := by
  have H := Lib.hid h
  obtain ⟨ao, cap, rfl, h1, h2, -⟩ := h
  clear h1 h2
  go_enter Try.func95, Try.ntmps95
  go_wp2_with fail
  go_loopw [3, 8] (fun c i x => ∃ j : Nat, j ≤ l.length ∧ i = .int .i64 (j : Int) ∧ c = .int .i64 (num (l.take j) : Nat) ∧ x = w) (fun _ i _ => l.length - (intOf i).toNat)
  case atStart => exact ⟨0, by omega, rfl, rfl, rfl⟩
  case round =>
    obtain ⟨j, hj, rfl, rfl, rfl⟩ := hrel
    by_cases hlt : j < l.length
    · obtain ⟨g, q, hix, hc⟩ := Ta.byte_at H.out hlt
      have HT := Lib.hid (num_take hlt)
      have hb : l[j].toNat < 256 := l[j].toNat_lt
      have hn : num (l.take j) < 1099511627776 := Nat.lt_of_lt_of_le (num_lt_take l j hj) (Nat.pow_le_pow_right (i := j) (j := 5) (by omega) (by omega))
      generalize num (l.take j) = C at *
      generalize l[j].toNat = B at *
      have hor : Go.bits .or .i64 ((C : Int) * 256) (B : Int) = ((C * 256 + B : Nat) : Int) := or_i64 C B hn hb
      have HO := Lib.hid hor
      clear hor
      go_wp2_with fail
      go_roundw
      case rel => exact ⟨j + 1, by omega, by go_num, by rw [HT.out, HO.out], trivial⟩
      case measure => simp [intOf]; omega
    · obtain rfl : j = l.length := by omega
      rw [List.take_length]
      go_wp2_with fail
      go_ret
      exact ⟨rfl, rfl⟩
/-- How many sectors so many bytes take. -/
def parts (n : Nat) : Nat := max 1 ((n + 107) / 108)
set_option maxHeartbeats 4000000 in
set_option maxRecDepth 100000 in
theorem parts_any (n : Nat) (hn : n ≤ 9223372036854775000) (w : World) : Calls Try.prog 54 #[.int .i64 (n : Int)] w fun e x => e = .returned (.int .i64 (parts n : Nat)) ∧ x = w := by
  go_enter Try.func54, Try.ntmps54
  have e : parts n = max 1 ((n + 107) / 108) := rfl
  by_cases h : (n + 107) / 108 ≤ 1
  · have h' : ((n : Int) + 108 - 1) / 108 ≤ 1 := by omega
    have e' : parts n = 1 := by omega
    rw [e']
    clear h e
    go_wp2_with fail
    go_ret
    exact ⟨rfl, rfl⟩
  · have h' : 1 < ((n : Int) + 108 - 1) / 108 := by omega
    have e' : ((n : Int) + 108 - 1) / 108 = (parts n : Nat) := by omega
    clear h e
    have E := Lib.hid e'
    clear e'
    go_wp2_with fail
    go_ret
    exact ⟨by rw [← E.out]; rfl, rfl⟩
end Sp
end Go.Proofs.Ytkfmmdiflbnhgaa
