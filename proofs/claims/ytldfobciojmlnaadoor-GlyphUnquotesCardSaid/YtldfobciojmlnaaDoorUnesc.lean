/-
  Package glyph in this program: unescape.
-/
import Derived.Test.YtldfobciojmlnaaDoorEscB
import Derived.Test.YtldfobciojmlnaaDoorQuote
namespace Go.Proofs.YtldfobciojmlnaaDoor
open Go.RowKit
namespace Gl

theorem extract_from (s : ByteArray) (p : Nat) : (s.extract p s.size).data.toList = s.data.toList.drop p := by
  rw [Lib.extract_data, List.take_of_length_le]
  rw [List.length_drop, ← Lib.size_eq]
  exact Nat.le_refl _

def unescV : Option (List UInt8) → Value
  | some t => .tuple #[.string ⟨t.toArray⟩, .bool true]
  | none => .tuple #[.string ⟨#[]⟩, .bool false]

set_option maxHeartbeats 4000000 in
set_option maxRecDepth 100000 in
theorem unescape_any (s : ByteArray) (w : World) (hs : s.size ≤ 1000000) :
    Calls Tryd.prog 40 #[.string s] w fun e w' => e = .returned (unescV (Gly.unesc s.data.toList)) ∧ Below w.heap.size w w' := by
  have hfresh : Lib.IsBuilderF 50 5 w.heap.size w.heap.size (Lib.byteCells []) (w.alloc (.cells #[.pointer none, .slice none 0 0] 50)) := Lib.IsBuilderF.of (Lib.fresh_isBuilder 50 5 w)
  have hbel0 := (Below.refl w.heap.size w).alloc (Nat.le_refl _) (.cells #[.pointer none, .slice none 0 0] 50)
  obtain ⟨w1, hw1⟩ : ∃ w1, w1 = w.alloc (.cells #[.pointer none, .slice none 0 0] 50) := ⟨_, rfl⟩
  have hs1 : w1.heap.size = w.heap.size + 1 := by rw [hw1]; exact Array.size_push _
  have hI0 : Lib.IsBuilderF 50 5 w.heap.size w.heap.size (Lib.byteCells []) (w1.iter s 0) := by rw [hw1]; exact Lib.IsBuilderF.alloc hfresh _
  have hb0 : Below w.heap.size w (w1.iter s 0) := by rw [hw1]; exact hbel0.alloc hbel0.size _
  have hi0 := World.iter_heap w1 s 0
  rw [hs1] at hi0
  clear hbel0 hfresh
  subst hw1
  go_enter Tryd.func40, Tryd.ntmps40
  go_wp2
  go_loopw [5] (fun v wr => ∃ (pos nx q : Nat) (acc : List UInt8), v = .int .i64 nx ∧ Lib.IsBuilderF 50 5 w.heap.size w.heap.size (Lib.byteCells acc) wr ∧ wr.heap[w.heap.size + 1]? = some (.stringIter s pos) ∧ Below w.heap.size w wr ∧ Hid ((Gly.unesc (s.data.toList.drop q)).map (acc ++ ·) = Gly.unesc s.data.toList) ∧ Hid (∀ j, pos ≤ j → j < q → Gly.byte s.data.toList j < 128) ∧ acc.length ≤ 4 * q ∧ pos ≤ q ∧ nx ≤ q ∧ (q = pos ∨ q = nx) ∧ q ≤ s.size) (fun _ wr => s.size - wr.iterPos (w.heap.size + 1))
  case atStart => exact ⟨0, 0, 0, [], rfl, hI0, hi0, hb0, Lib.hid (by simp), Lib.hid (fun j _ h => absurd h (by omega)), by simp, by omega, by omega, .inl rfl, by omega⟩
  case round =>
    clear hI0 hb0 hi0 hs1
    obtain ⟨pos, nx, q, acc, rfl, hI, hit, hbw, HS, HA, hal, hpq, hnq, hq, hqs⟩ := hrel
    have hpos0 := iterPos_of hit
    have hsz := hbw.size
    have hlt1 := Bld.lt_of_heap hit
    by_cases hp : pos < s.size
    · have hnx : ∀ ty, (Instr.next (.pointer (some ⟨w.heap.size + 1, 0, none⟩)) true ty).run Tryd.prog wr = _ := fun ty => Lib.run_next_any_at wr (w.heap.size + 1) s pos ty hit hp
      have hne := drop_ne hp
      have hwd := width s pos hp
      have hmx := Gly.dec_max _ hne
      rw [← Gly.dec_at] at hmx
      have hI2 := hI.iterAt hit (pos + (Utf8.decode s pos).2)
      have hit2 := Lib.iterAt_heap wr (w.heap.size + 1) s pos (pos + (Utf8.decode s pos).2) hit
      have hbw2 := Lib.below_iterAt hbw (k := w.heap.size + 1) (by omega) s (pos + (Utf8.decode s pos).2)
      obtain ⟨W1, hW1⟩ : ∃ W1, W1 = wr.iterAt (w.heap.size + 1) s (pos + (Utf8.decode s pos).2) := ⟨_, rfl⟩
      rw [← hW1] at hnx hit2 hbw2 hI2
      have hsz2 := hbw2.size
      clear hW1 hit hbw hI
      by_cases hpn : pos < nx
      · have hqn : q = nx := by omega
        have hw1 : (Utf8.decode s pos).2 = 1 := by
          have hb := HA.out pos (Nat.le_refl _) (by omega)
          rw [Gly.dec_at, Gly.dec_low hne (by unfold Gly.byte at hb ⊢; rw [Gly.getD_drop, Nat.add_zero]; exact hb)]
        go_wp2
        go_roundw
        case rel => exact ⟨_, nx, q, acc, rfl, hI2, hit2, hbw2, HS, Lib.hid (fun j h1 h2 => HA.out j (by omega) h2), hal, by omega, hnq, .inr hqn, hqs⟩
        case measure => rw [iterPos_of hit2, hpos0]; omega
      · have hqp : q = pos := by omega
        subst hqp
        clear HA
        have hc := HS.out
        by_cases hr : (Utf8.decode s q).1 = 92
        · have hr92 : (((Utf8.decode s q).1 : Int) != 92) = false := by simp; omega
          have hsl : ∀ W, (Instr.slice 9 (.string s) (some (.int .i64 (q : Int))) none none).run Tryd.prog W = .ok (.string (s.extract q s.size)) W := fun W => by
            rw [run_slice_string_l W 9 s Tryd.underlying9 .i64 _ (by omega) (by omega), Int.toNat_natCast]
          have hes := fun W => escaped_any (s.extract q s.size) W (by rw [ByteArray.size_extract]; omega)
          rw [extract_from] at hes
          cases hx : Gly.esc (s.data.toList.drop q) with
          | none =>
            rw [Gly.unesc_none hne (by rw [← Gly.dec_at]; exact hr) hx] at hc
            rw [hx] at hes
            have HE := Lib.hid hes
            have HC := Lib.hid hc
            clear hes hc HS hx hne
            go_wp2_with (go_at_call 54; refine (HE.out _).mono ?_; rintro e w2 ⟨rfl, b2⟩; simp only [escV])
            go_ret2
            exact ⟨by rw [← HC.out]; rfl, hbw2.trans (b2.mono hsz2)⟩
          | some x =>
            obtain ⟨p, n⟩ := x
            obtain ⟨a1, a2, a3, a4⟩ := Gly.esc_ascii hx
            rw [List.length_drop, ← Lib.size_eq] at a1
            rw [Gly.unesc_esc hne (by rw [← Gly.dec_at]; exact hr) hx, Option.map_map, List.drop_drop] at hc
            rw [hx] at hes
            have ha : ∀ j, q ≤ j → j < q + (n + 1) → Gly.byte s.data.toList j < 128 := fun j h1 h2 => by
              have := a3 (j - q) (by omega)
              unfold Gly.byte at this ⊢
              rw [Gly.getD_drop, show q + (j - q) = j by omega] at this
              exact this
            have hw1 : (Utf8.decode s q).2 = 1 := by
              rw [Gly.dec_at, Gly.dec_low hne (a3 0 (by omega))]
            have hz : (((n : Int) + 1) == 0) = false := by simp; omega
            have HE := Lib.hid hes
            have HC := Lib.hid hc
            have HA2 := Lib.hid ha
            clear hes hc HS hx hne a3 ha
            go_wp2_with (go_at_call 54; refine (HE.out _).mono ?_; rintro e w2 ⟨rfl, b2⟩; simp only [escV])
            have h2 := Bld.kept_below hI2 b2
            have hit3 := (b2.block (w.heap.size + 1) (Bld.lt_of_heap hit2)).trans hit2
            replace b2 := hbw2.trans (b2.mono hsz2)
            have hsz3 := b2.size
            clear hI2 hit2 hbw2
            go_wp2_with (go_at_call 49; refine (Bld.writeString w.heap.size w.heap.size _ _ _ h2 (by rw [Lib.byteCells_length, Lib.size_eq]; simp; omega) hsz3).mono ?_)
            rintro e w3 ⟨rfl, h3, b3, k3⟩
            rw [bytes_str] at h3
            go_wp2
            go_roundw
            case rel => exact ⟨_, q + (n + 1), q + (n + 1), acc ++ p, by go_num, .inr h3, k3.iter hit3 (by omega), b2.trans b3, Lib.hid (by rw [← HC.out]; simp [Function.comp_def]), Lib.hid (fun j h1 h2 => HA2.out j (by omega) h2), by rw [List.length_append]; omega, by omega, Nat.le_refl _, .inr rfl, by omega⟩
            case measure => rw [iterPos_of (k3.iter hit3 (by omega)), hpos0]; omega
        · rw [Gly.unesc_rune hne (by rw [← Gly.dec_at]; exact hr), drop_next, Option.map_map, ← Gly.dec_at] at hc
          have HC := Lib.hid hc
          have hr92 : (((Utf8.decode s q).1 : Int) != 92) = true := by simp; omega
          have hel := (Lib.runeCells_le ((Utf8.decode s q).1 : Int)).2
          rw [Lib.runeCells_length] at hel
          clear hc HS hne
          go_wp2_with (go_at_call 36; refine (Bld.writeRune w.heap.size w.heap.size _ _ (by omega) (by omega) _ hI2 (by rw [Lib.byteCells_length]; omega) hsz2).mono ?_; rintro e w2 ⟨rfl, h2, b2, k2⟩)
          rw [cells_encode] at h2
          go_wp2
          go_roundw
          case rel => exact ⟨_, nx, q + (Utf8.decode s q).2, acc ++ Lib.encodeRune ((Utf8.decode s q).1 : Int), rfl, .inr h2, k2.iter hit2 (by omega), hbw2.trans b2, Lib.hid (by rw [← HC.out]; simp [Function.comp_def]), Lib.hid (fun j h1 h2 => absurd h2 (by omega)), by rw [List.length_append]; omega, Nat.le_refl _, by omega, .inl rfl, hwd.2⟩
          case measure => rw [iterPos_of (k2.iter hit2 (by omega)), hpos0]; omega
    · have hnx : ∀ ty, (Instr.next (.pointer (some ⟨w.heap.size + 1, 0, none⟩)) true ty).run Tryd.prog wr = _ := fun ty => Lib.run_next_end_at wr (w.heap.size + 1) s pos ty hit hp
      have hc := HS.out
      rw [drop_end (show ¬ q < s.size by omega), Gly.unesc_nil] at hc
      have HC := Lib.hid hc
      clear hc HS HA
      go_wp2_with (go_at_call 37; refine (Tryd.Builder_String_any_k w.heap.size w.heap.size _ _ hI hsz).mono ?_)
      rintro e w3 ⟨rfl, _, b3, _⟩
      go_wp2
      go_ret2
      exact ⟨by rw [← HC.out]; simp [unescV], hbw.trans b3⟩
end Gl
end Go.Proofs.YtldfobciojmlnaaDoor
