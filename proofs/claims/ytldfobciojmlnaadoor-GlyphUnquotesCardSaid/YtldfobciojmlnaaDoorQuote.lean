/-
  Package glyph in this program, fourth part: escape and Quote.
-/
import Derived.Test.YtldfobciojmlnaaDoorGlyC
import Derived.Test.YtldfobciojmlnaaDoorBld
import Derived.Test.YtldfobciojmlnaaDoorNum
namespace Go.Proofs.YtldfobciojmlnaaDoor
open Go.RowKit
namespace Gl

theorem _root_.Go.Proofs.YtldfobciojmlnaaDoor.Num.Tab.belowB {B : Nat} {w w' : World} (h : Num.Tab w) (hB : 3 < B) (hb : Below B w w') : Num.Tab w' :=
  (hb.cell (p := ⟨3, 15, none⟩) hB).trans h

theorem bytes_snoc (l : List UInt8) (c : UInt8) : Lib.byteCells l ++ [Value.int .u8 (c.toNat : Int)] = Lib.byteCells (l ++ [c]) := by
  rw [Lib.byteCells_append]; rfl
theorem bytes_str (l : List UInt8) (x : List UInt8) : Lib.byteCells l ++ Lib.strCells ⟨x.toArray⟩ = Lib.byteCells (l ++ x) := by
  rw [Lib.byteCells_append, Lib.strCells_eq]

set_option maxHeartbeats 2000000 in
set_option maxRecDepth 100000 in
theorem escape_any (B b : Nat) (l : List UInt8) (k : UInt8) (n : Nat) (w : World) (hn : n < 2147483648) (hl : l.length ≤ 100000000) (h : Lib.IsBuilderF 50 5 B b (Lib.byteCells l) w) (hBw : B ≤ w.heap.size) (hT : Num.Tab w) (hB : 3 < B) :
    Calls Tryd.prog 34 #[.pointer (some ⟨b, 0, none⟩), .int .u8 (k.toNat : Int), .int .i64 n] w fun e w' => e = .returned (.tuple #[]) ∧ (Lib.BuilderAtF 50 5 B b (.pointer (some ⟨b, 0, none⟩)) (Lib.byteCells (l ++ [92, k, 123] ++ Gly.hex n ++ [125])) w' ∧ Below B w w' ∧ Lib.OthersKept 5 (some b) w w') := by
  have hx := (Gly.hex_len 7 n (by omega)).2
  go_enter Tryd.func34, Tryd.ntmps34
  go_wp2_with (go_at_call 33; refine (Bld.writeByte B b _ 92 _ h (by rw [Lib.byteCells_length]; omega) hBw).mono ?_)
  rintro e w1 ⟨rfl, h1, b1, k1⟩
  rw [show Lib.byteCells l ++ [Value.int .u8 92] = Lib.byteCells (l ++ [92]) from bytes_snoc l 92] at h1
  go_wp2_with (go_at_call 33; refine (Bld.writeByte B b _ (k.toNat : Int) _ (.inr h1) (by rw [Lib.byteCells_length]; simp; omega) (by have := b1.size; omega)).mono ?_)
  rintro e w2 ⟨rfl, h2, b2, k2⟩
  rw [bytes_snoc] at h2
  replace b2 := b1.trans b2
  replace k2 := k1.trans k2
  clear b1 k1 h1
  go_wp2_with (go_at_call 33; refine (Bld.writeByte B b _ 123 _ (.inr h2) (by rw [Lib.byteCells_length]; simp; omega) (by have := b2.size; omega)).mono ?_)
  rintro e w3 ⟨rfl, h3, b3, k3⟩
  rw [show Lib.byteCells (l ++ [92] ++ [k]) ++ [Value.int .u8 123] = Lib.byteCells (l ++ [92] ++ [k] ++ [123]) from bytes_snoc _ 123] at h3
  replace b3 := b2.trans b3
  replace k3 := k2.trans k3
  clear b2 k2 h2
  go_wp2_with (go_at_call 50; refine (Num.formatInt n _ hn (hT.belowB hB b3)).mono ?_)
  rintro e w4 ⟨rfl, b4⟩
  have h4 := Bld.kept_below (.inr h3) b4
  have hsz := b4.size
  have hsz3 := b3.size
  replace k4 := k3.trans (Bld.others_below b4)
  replace b4 := b3.trans (b4.mono (by omega))
  clear b3 k3 h3
  go_wp2_with (go_at_call 49; refine (Bld.writeString B b _ _ _ h4 (by rw [Lib.byteCells_length, Lib.size_eq]; simp; omega) (by omega)).mono ?_)
  rintro e w5 ⟨rfl, h5, b5, k5⟩
  rw [bytes_str] at h5
  replace b5 := b4.trans b5
  replace k5 := k4.trans k5
  clear b4 k4 h4
  go_wp2_with (go_at_call 33; refine (Bld.writeByte B b _ 125 _ (.inr h5) (by rw [Lib.byteCells_length]; simp; omega) (by have := b5.size; omega)).mono ?_)
  rintro e w6 ⟨rfl, h6, b6, k6⟩
  rw [show Lib.byteCells (l ++ [92] ++ [k] ++ [123] ++ Gly.hex n) ++ [Value.int .u8 125] = Lib.byteCells (l ++ [92, k, 123] ++ Gly.hex n ++ [125]) by rw [show [Value.int .u8 125] = [Value.int .u8 ((125 : UInt8).toNat : Int)] from rfl, bytes_snoc]; simp] at h6
  go_wp2
  go_end0
  exact ⟨rfl, h6, b5.trans b6, k5.trans k6⟩

theorem cells_encode (r : Nat) (l : List UInt8) : Lib.byteCells l ++ Lib.runeCells (r : Int) = Lib.byteCells (l ++ Lib.encodeRune (r : Int)) := by
  rw [Lib.byteCells_append, Lib.byteCells_encodeRune]

set_option maxHeartbeats 4000000 in
set_option maxRecDepth 100000 in
theorem quote_any (s : ByteArray) (w : World) (hs : s.size ≤ 1000000) (hT : Num.Tab w) :
    Calls Tryd.prog 19 #[.string s] w fun e w' => e = .returned (.string ⟨(Gly.quote s.data.toList).toArray⟩) ∧ Below w.heap.size w w' := by
  have hB : 3 < w.heap.size := Num.lt_of_cell hT
  have hfresh : Lib.IsBuilderF 50 5 w.heap.size w.heap.size (Lib.byteCells []) (w.alloc (.cells #[.pointer none, .slice none 0 0] 50)) := Lib.IsBuilderF.of (Lib.fresh_isBuilder 50 5 w)
  have hbel0 := (Below.refl w.heap.size w).alloc (Nat.le_refl _) (.cells #[.pointer none, .slice none 0 0] 50)
  go_enter Tryd.func19, Tryd.ntmps19
  go_wp2_with (go_at_call 33; refine (Bld.writeByte w.heap.size w.heap.size _ 34 _ hfresh (by rw [Lib.byteCells_length]; simp) (by simp)).mono ?_)
  rintro e w1 ⟨rfl, h1, b1, k1⟩
  rw [show Lib.byteCells [] ++ [Value.int .u8 34] = Lib.byteCells [34] from rfl] at h1
  replace b1 := hbel0.trans b1
  have hs1 : w.heap.size < w1.heap.size := h1.lt
  have hI0 : Lib.IsBuilderF 50 5 w.heap.size w.heap.size (Lib.byteCells [34]) (w1.iter s 0) := Lib.IsBuilderF.alloc (.inr h1) _
  have hb0 : Below w.heap.size w (w1.iter s 0) := b1.alloc (Nat.le_of_lt hs1) _
  have hi0 := World.iter_heap w1 s 0
  clear k1 h1 b1 hfresh hbel0
  go_wp2_with fail
  go_loopw [] (fun wr => ∃ (pos : Nat) (acc : List UInt8), Lib.IsBuilderF 50 5 w.heap.size w.heap.size (Lib.byteCells acc) wr ∧ wr.heap[w1.heap.size]? = some (.stringIter s pos) ∧ Below w.heap.size w wr ∧ Hid (acc ++ Gly.qb (s.data.toList.drop pos) = [34] ++ Gly.qb s.data.toList) ∧ acc.length ≤ 10 * pos + 1 ∧ pos ≤ s.size) (fun wr => s.size - wr.iterPos w1.heap.size)
  case atStart => exact ⟨0, [34], hI0, hi0, hb0, rfl, by simp, by omega⟩
  case round =>
    clear hI0 hb0 hi0
    obtain ⟨pos, acc, hI, hit, hbw, HS, hal, hps⟩ := hrel
    have hpos0 := iterPos_of hit
    by_cases hp : pos < s.size
    · have hnx : ∀ ty, (Instr.next (.pointer (some ⟨w1.heap.size, 0, none⟩)) true ty).run Tryd.prog wr = _ := fun ty => Lib.run_next_any_at wr w1.heap.size s pos ty hit hp
      have hne := drop_ne hp
      have hwd := width s pos hp
      have hst := stray_dec s pos hp hs
      have hmx := Gly.dec_max _ hne
      rw [← Gly.dec_at] at hmx
      have hq := Gly.qb_step hne
      rw [drop_next] at hq
      have hpl := Gly.piece_len _ hne
      have hI2 := hI.iterAt hit (pos + (Utf8.decode s pos).2)
      have hit2 := Lib.iterAt_heap wr w1.heap.size s pos (pos + (Utf8.decode s pos).2) hit
      have hbw2 := Lib.below_iterAt hbw (k := w1.heap.size) (Nat.le_of_lt hs1) s (pos + (Utf8.decode s pos).2)
      obtain ⟨W1, hW1⟩ : ∃ W1, W1 = wr.iterAt w1.heap.size s (pos + (Utf8.decode s pos).2) := ⟨_, rfl⟩
      rw [← hW1] at hnx hit2 hbw2 hI2
      have hsz2 := hbw2.size
      have hT2 := hT.belowB hB hbw2
      clear hW1 hit hbw hI
      have hq2 : acc ++ (Gly.piece (s.data.toList.drop pos) ++ Gly.qb (s.data.toList.drop (pos + (Utf8.decode s pos).2))) = [34] ++ Gly.qb s.data.toList := by rw [← hq]; exact HS.out
      rw [← List.append_assoc] at hq2
      clear hq
      cases hb : Gly.bad (s.data.toList.drop pos) with
      | true =>
        have hpc : Gly.piece (s.data.toList.drop pos) = [92, 120, 123] ++ Gly.hex (s[pos]).toNat ++ [125] := by
          rw [Gly.piece, if_pos hb]
          have := Ref.byte_at0 hp
          rw [this]
        rw [hpc] at hq2 hpl
        rw [hb] at hst
        have HT := Lib.hid hst
        have HQ := Lib.hid hq2
        have HL := Lib.hid hpl
        have hby := (s[pos]).toNat_lt
        clear hst hq2 hpl hb hpc hmx hne
        go_wp2_with (go_at_call 26; refine (HT.out _).mono ?_; rintro e w'' ⟨rfl, rfl⟩)
        go_wp2_with (go_at_call 34; refine (escape_any w.heap.size w.heap.size acc 120 (s[pos]).toNat _ (by omega) (by omega) hI2 hsz2 hT2 hB).mono ?_)
        rintro e w2 ⟨rfl, h2, b2, k2⟩
        go_wp2
        go_roundw
        case rel => exact ⟨_, _, .inr h2, k2.iter hit2 (by omega), hbw2.trans b2, Lib.hid (by rw [← HQ.out]; simp), by have := HL.out; simp at this ⊢; omega, hwd.2⟩
        case measure => rw [iterPos_of (k2.iter hit2 (by omega)), hpos0]; omega
      | false =>
        rw [hb] at hst
        have hsh := shown_any (Utf8.decode s pos).1 hmx
        cases hsw : Gly.shown (Utf8.decode s pos).1 with
        | true =>
          have hpc : Gly.piece (s.data.toList.drop pos) = Lib.encodeRune ((Utf8.decode s pos).1 : Int) := by
            rw [Gly.dec_at] at hsw ⊢
            rw [Gly.piece, if_neg (by rw [hb]; exact Bool.false_ne_true), if_pos hsw, Gly.encode_dec _ hne hb]
          rw [hpc] at hq2 hpl
          rw [hsw] at hsh
          have HT := Lib.hid hst
          have HS2 := Lib.hid hsh
          have HQ := Lib.hid hq2
          have HL := Lib.hid hpl
          clear hst hq2 hpl hb hpc hne hsw hsh
          go_wp2_with (go_at_call 26; refine (HT.out _).mono ?_; rintro e w'' ⟨rfl, rfl⟩)
          go_wp2_with (go_at_call 35; refine (HS2.out _).mono ?_; rintro e w'' ⟨rfl, rfl⟩)
          go_wp2_with (go_at_call 36; refine (Bld.writeRune w.heap.size w.heap.size _ _ (by omega) (by omega) _ hI2 (by rw [Lib.byteCells_length]; omega) hsz2).mono ?_)
          rintro e w2 ⟨rfl, h2, b2, k2⟩
          rw [cells_encode] at h2
          go_wp2
          go_roundw
          case rel => exact ⟨_, _, .inr h2, k2.iter hit2 (by omega), hbw2.trans b2, HQ, by have := HL.out; simp at this ⊢; omega, hwd.2⟩
          case measure => rw [iterPos_of (k2.iter hit2 (by omega)), hpos0]; omega
        | false =>
          have hpc : Gly.piece (s.data.toList.drop pos) = [92, 117, 123] ++ Gly.hex (Utf8.decode s pos).1 ++ [125] := by
            rw [Gly.dec_at] at hsw ⊢
            rw [Gly.piece, if_neg (by rw [hb]; exact Bool.false_ne_true), if_neg (by rw [hsw]; exact Bool.false_ne_true)]
          rw [hpc] at hq2 hpl
          rw [hsw] at hsh
          have HT := Lib.hid hst
          have HS2 := Lib.hid hsh
          have HQ := Lib.hid hq2
          have HL := Lib.hid hpl
          clear hst hq2 hpl hb hpc hne hsw hsh
          go_wp2_with (go_at_call 26; refine (HT.out _).mono ?_; rintro e w'' ⟨rfl, rfl⟩)
          go_wp2_with (go_at_call 35; refine (HS2.out _).mono ?_; rintro e w'' ⟨rfl, rfl⟩)
          go_wp2_with (go_at_call 34; refine (escape_any w.heap.size w.heap.size acc 117 (Utf8.decode s pos).1 _ (by omega) (by omega) hI2 hsz2 hT2 hB).mono ?_)
          rintro e w2 ⟨rfl, h2, b2, k2⟩
          go_wp2
          go_roundw
          case rel => exact ⟨_, _, .inr h2, k2.iter hit2 (by omega), hbw2.trans b2, Lib.hid (by rw [← HQ.out]; simp), by have := HL.out; simp at this ⊢; omega, hwd.2⟩
          case measure => rw [iterPos_of (k2.iter hit2 (by omega)), hpos0]; omega
    · have hnx : ∀ ty, (Instr.next (.pointer (some ⟨w1.heap.size, 0, none⟩)) true ty).run Tryd.prog wr = _ := fun ty => Lib.run_next_end_at wr w1.heap.size s pos ty hit hp
      have hc := HS.out
      rw [drop_end hp, Gly.qb_nil, List.append_nil] at hc
      have hsz := hbw.size
      have HC := Lib.hid hc
      clear hc
      go_wp2_with (go_at_call 33; refine (Bld.writeByte w.heap.size w.heap.size _ 34 _ hI (by rw [Lib.byteCells_length]; omega) hsz).mono ?_)
      rintro e w2 ⟨rfl, h2, b2, k2⟩
      rw [show Lib.byteCells acc ++ [Value.int .u8 34] = Lib.byteCells (acc ++ [34]) from bytes_snoc _ 34] at h2
      replace b2 := hbw.trans b2
      go_wp2_with (go_at_call 37; refine (Tryd.Builder_String_any_k w.heap.size w.heap.size _ _ (.inr h2) b2.size).mono ?_)
      rintro e w3 ⟨rfl, _, b3, _⟩
      go_wp2
      go_ret
      refine ⟨?_, b2.trans b3⟩
      have hfin : acc ++ [34] = Gly.quote s.data.toList := by rw [HC.out]; rfl
      rw [hfin]
      rfl
end Gl
end Go.Proofs.YtldfobciojmlnaaDoor
