/-
  strings.IndexRune at the ten reserved signs and a rune that isn't ASCII: it isn't among them.
  Package glyph in this program: plain, and Id.
  Package glyph in this program: letter, digit, Name.
  The document's answers for layer 1 (stileref01) in this program: Rune.
  The document's Runes in this program: a list of its own of a text's runes, or that it isn't UTF-8.
  The document's Plain.
  The document's Id.
-/
import Derived.Test.YtopncohhagebbaaGreatDoorMgMem
import Derived.Test.YtopncohhagebbaaGreatDoorMgPure
import Derived.Test.YtopncohhagebbaaGreatDoorMgPureB
import Derived.Handy
namespace Go.Proofs.YtopncohhagebbaaGreatDoor
open Go.RowKit
namespace Gl

/-- The ten signs. -/
def res : ByteArray := ⟨#[35, 64, 58, 42, 44, 40, 41, 34, 92, 59]⟩

theorem encode_last (r : Nat) (h0 : 128 ≤ r) (h1 : r ≤ 1114111) (h2 : r < 55296 ∨ 57344 ≤ r) : ∃ rs m, Utf8.encode (r : Int) = rs ∧ (m = 1 ∨ m = 2 ∨ m = 3) ∧ rs.size = m + 1 ∧ ∃ b : UInt8, rs.data[m]? = some b ∧ 128 ≤ b.toNat := by
  have hv : Utf8.valid (r : Int) = true := by simp [Utf8.valid]; omega
  have e : ((r : Int)).toNat = r := by omega
  unfold Utf8.encode
  simp only [hv, if_true, e]
  by_cases c1 : r < 2048
  · rw [if_neg (by omega), if_pos c1]
    refine ⟨_, 1, rfl, by simp, rfl, UInt8.ofNat (128 + r % 64), rfl, ?_⟩
    rw [UInt8.toNat_ofNat']; omega
  · by_cases c2 : r < 65536
    · rw [if_neg (by omega), if_neg c1, if_pos c2]
      refine ⟨_, 2, rfl, by simp, rfl, UInt8.ofNat (128 + r % 64), rfl, ?_⟩
      rw [UInt8.toNat_ofNat']; omega
    · rw [if_neg (by omega), if_neg c1, if_neg c2]
      refine ⟨_, 3, rfl, by simp, rfl, UInt8.ofNat (128 + r % 64), rfl, ?_⟩
      rw [UInt8.toNat_ofNat']; omega

theorem indexByte_none : ∀ (l : List UInt8) (c : UInt8), (∀ b ∈ l, b ≠ c) → Lib.indexByte l c = -1
  | [], _, _ => rfl
  | a :: l, c, h => by
    have h1 : (a == c) = false := by simpa using h a (by simp)
    have h2 := indexByte_none l c (fun b hb => h b (by simp [hb]))
    simp [Lib.indexByte, h1, h2]

theorem tail_none (m : Nat) (b : UInt8) (hb : 128 ≤ b.toNat) : Lib.indexByte (res.data.toList.drop m) b = -1 := by
  refine indexByte_none _ _ fun x hx e => ?_
  have hx' := List.mem_of_mem_drop hx
  have : ∀ y ∈ res.data.toList, y.toNat < 128 := by decide
  have := this x hx'
  rw [e] at this; omega

/-- A quiet callee behind a region that has drawn already. -/
theorem quiet_add_same {P : Program} {f : FuncId} {args : Array Value} {w : World} {a n : Nat} {v : Value}
    (h : Calls P f args (w.drewN (a + n)) fun e w' => e = .returned v ∧ w' = w.drewN (a + n)) :
    Calls P f args (w.drewN (a + n)) fun e w'' => e = .returned v ∧ ∃ m, w'' = w.drewN (a + m) :=
  h.mono fun _ _ ⟨he, hm⟩ => ⟨he, n, hm⟩

set_option maxHeartbeats 4000000 in
set_option maxRecDepth 1000000 in
theorem indexRune_far (r : Nat) (h0 : 128 ≤ r) (h1 : r ≤ 1114111) (h2 : r < 55296 ∨ 57344 ≤ r) (h3 : r ≠ 65533) (w : World) :
    Calls Tryz.prog 170 #[.string res, .int .i32 r] w fun e w' => e = .returned (.int .i64 (-1)) ∧ ∃ n, w' = w.drewN n := by
  obtain ⟨rs, m, he, hm, hsz, b, hb, hb8⟩ := encode_last r h0 h1 h2
  have b1 : ((r : Int) == 65533) = false := by simp; omega
  have hv : Lib.validRune (r : Int) = true := by simp [Lib.validRune]; omega
  have hrs : ∃ h : m < rs.size, rs[m] = b := by
    refine ⟨by omega, ?_⟩
    have h' : m < rs.data.size := by have : rs.size = rs.data.size := rfl; omega
    rw [Array.getElem?_eq_getElem h'] at hb
    exact Option.some.inj hb
  obtain ⟨hml, hrs⟩ := hrs
  have htail := tail_none (m + 1) b hb8
  have hval := flip (Tryz.utf8_ValidRune (r : Int) w)
  rw [hv] at hval
  have hconv : ∀ W, (convert 21 9 (.int .i32 (r : Int))).run Tryz.prog W = .ok (.string rs) W := fun W => by
    rw [← he]
    go_simp
  have HV := Lib.hid hval
  have HRS := Lib.hid hrs
  clear hv hval hrs he
  rcases hm with rfl | rfl | rfl
  · have n1 : ((64 : Int) != (b.toNat : Int)) = true := by rw [bne_iff_ne]; omega
    have hix := Tryz.strings_IndexByte (res.extract 2 10) (b.toNat : Int)
    rw [show (res.extract 2 10).data.toList = res.data.toList.drop 2 from rfl, show ((b.toNat : Int)).toNat.toUInt8 = b by simp, htail] at hix
    have HIX := Lib.hid hix
    have hxr : ∀ W, (Instr.index 9 (.string res) (.int .i64 1)).run Tryz.prog W = .ok (.int .u8 64) W := fun W => by
      rw [run_index_string W 9 res .i64 1 Tryz.underlying9, dif_pos ⟨by omega, by decide⟩]
      rfl
    have hxs : ∀ W, (Instr.index 9 (.string rs) (.int .i64 1)).run Tryz.prog W = .ok (.int .u8 (b.toNat : Int)) W := fun W => by
      rw [run_index_string W 9 rs .i64 1 Tryz.underlying9, dif_pos ⟨by omega, by omega⟩]
      have := HRS.out
      simp [this]
    have hw2 : IntKind.i64.wrap 2 = 2 := by decide
    have hsl : ∀ W, (Instr.slice 9 (.string res) (some (.int .i64 2)) none none).run Tryz.prog W = .ok (.string (res.extract 2 10)) W := fun W => by
      go_simp
      rfl
    clear hix htail h2 h3
    go_enter Tryz.func170, Tryz.ntmps170
    go_wp2_with (go_at_call 178; refine HV.out.mono ?_; rintro e w' ⟨rfl, rfl⟩)
    go_step3
    go_wp2_with fail
    refine wp_loop_once ?_
    go_wp2_with fail
    go_step3
    go_wp2_with fail
    go_quiet (fail)
    go_wp2_with fail
    go_quiet ((go_at_call 177; exact quiet_add_same (HIX.out _)))
    go_wp2_with fail
    rw [Exit.noGoto_ret]
    simp +zetaDelta only [Exit.inBlock, Exit.noGoto_ret, Exit.then]
    go_ret
    exact ⟨rfl, _, rfl⟩
  · have n1 : ((58 : Int) != (b.toNat : Int)) = true := by rw [bne_iff_ne]; omega
    have hix := Tryz.strings_IndexByte (res.extract 3 10) (b.toNat : Int)
    rw [show (res.extract 3 10).data.toList = res.data.toList.drop 3 from rfl, show ((b.toNat : Int)).toNat.toUInt8 = b by simp, htail] at hix
    have HIX := Lib.hid hix
    have hxr : ∀ W, (Instr.index 9 (.string res) (.int .i64 2)).run Tryz.prog W = .ok (.int .u8 58) W := fun W => by
      rw [run_index_string W 9 res .i64 2 Tryz.underlying9, dif_pos ⟨by omega, by decide⟩]
      rfl
    have hxs : ∀ W, (Instr.index 9 (.string rs) (.int .i64 2)).run Tryz.prog W = .ok (.int .u8 (b.toNat : Int)) W := fun W => by
      rw [run_index_string W 9 rs .i64 2 Tryz.underlying9, dif_pos ⟨by omega, by omega⟩]
      have := HRS.out
      simp [this]
    have hw2 : IntKind.i64.wrap 3 = 3 := by decide
    have hsl : ∀ W, (Instr.slice 9 (.string res) (some (.int .i64 3)) none none).run Tryz.prog W = .ok (.string (res.extract 3 10)) W := fun W => by
      go_simp
      rfl
    clear hix htail h2 h3
    go_enter Tryz.func170, Tryz.ntmps170
    go_wp2_with (go_at_call 178; refine HV.out.mono ?_; rintro e w' ⟨rfl, rfl⟩)
    go_step3
    go_wp2_with fail
    refine wp_loop_once ?_
    go_wp2_with fail
    go_step3
    go_wp2_with fail
    go_quiet (fail)
    go_wp2_with fail
    go_quiet ((go_at_call 177; exact quiet_add_same (HIX.out _)))
    go_wp2_with fail
    rw [Exit.noGoto_ret]
    simp +zetaDelta only [Exit.inBlock, Exit.noGoto_ret, Exit.then]
    go_ret
    exact ⟨rfl, _, rfl⟩
  · have n1 : ((42 : Int) != (b.toNat : Int)) = true := by rw [bne_iff_ne]; omega
    have hix := Tryz.strings_IndexByte (res.extract 4 10) (b.toNat : Int)
    rw [show (res.extract 4 10).data.toList = res.data.toList.drop 4 from rfl, show ((b.toNat : Int)).toNat.toUInt8 = b by simp, htail] at hix
    have HIX := Lib.hid hix
    have hxr : ∀ W, (Instr.index 9 (.string res) (.int .i64 3)).run Tryz.prog W = .ok (.int .u8 42) W := fun W => by
      rw [run_index_string W 9 res .i64 3 Tryz.underlying9, dif_pos ⟨by omega, by decide⟩]
      rfl
    have hxs : ∀ W, (Instr.index 9 (.string rs) (.int .i64 3)).run Tryz.prog W = .ok (.int .u8 (b.toNat : Int)) W := fun W => by
      rw [run_index_string W 9 rs .i64 3 Tryz.underlying9, dif_pos ⟨by omega, by omega⟩]
      have := HRS.out
      simp [this]
    have hw2 : IntKind.i64.wrap 4 = 4 := by decide
    have hsl : ∀ W, (Instr.slice 9 (.string res) (some (.int .i64 4)) none none).run Tryz.prog W = .ok (.string (res.extract 4 10)) W := fun W => by
      go_simp
      rfl
    clear hix htail h2 h3
    go_enter Tryz.func170, Tryz.ntmps170
    go_wp2_with (go_at_call 178; refine HV.out.mono ?_; rintro e w' ⟨rfl, rfl⟩)
    go_step3
    go_wp2_with fail
    refine wp_loop_once ?_
    go_wp2_with fail
    go_step3
    go_wp2_with fail
    go_quiet (fail)
    go_wp2_with fail
    go_quiet ((go_at_call 177; exact quiet_add_same (HIX.out _)))
    go_wp2_with fail
    rw [Exit.noGoto_ret]
    simp +zetaDelta only [Exit.inBlock, Exit.noGoto_ret, Exit.then]
    go_ret
    exact ⟨rfl, _, rfl⟩
end Gl
end Go.Proofs.YtopncohhagebbaaGreatDoor

namespace Go.Proofs.YtopncohhagebbaaGreatDoor
open Go.RowKit
namespace Gl

theorem res_decode : ∀ p, p < 10 → (Utf8.decode res p).1 < 128 ∧ (Utf8.decode res p).2 = 1 := by decide +kernel
theorem res_size : res.size = 10 := rfl

set_option maxHeartbeats 2000000 in
set_option maxRecDepth 1000000 in
theorem indexRune_fffd (w : World) :
    Calls Tryz.prog 170 #[.string res, .int .i32 65533] w fun e w' => e = .returned (.int .i64 (-1)) ∧ Below w.heap.size w w' := by
  go_enter Tryz.func170, Tryz.ntmps170
  go_wp2_with fail
  go_loopw [] (fun wr => ∃ pos : Nat, wr.heap[w.heap.size]? = some (.stringIter res pos) ∧ Below w.heap.size w wr ∧ pos ≤ 10) (fun wr => 10 - wr.iterPos w.heap.size)
  case atStart => exact ⟨0, World.iter_heap w res 0, (Below.refl _ _).alloc (Nat.le_refl _) _, by omega⟩
  case round =>
    obtain ⟨pos, hit, hbw, hps⟩ := hrel
    have hpos0 := iterPos_of hit
    by_cases hp : pos < 10
    · have hnx : ∀ ty, (Instr.next (.pointer (some ⟨w.heap.size, 0, none⟩)) true ty).run Tryz.prog wr = _ := fun ty => Lib.run_next_any_at wr w.heap.size res pos ty hit (by rw [res_size]; exact hp)
      have hd := res_decode pos hp
      obtain ⟨hd1, hd2⟩ := hd
      have hit2 := Lib.iterAt_heap wr w.heap.size res pos (pos + (Utf8.decode res pos).2) hit
      have hbw2 := Lib.below_iterAt hbw (k := w.heap.size) (Nat.le_refl _) res (pos + (Utf8.decode res pos).2)
      generalize hr : (Utf8.decode res pos).1 = r at *
      rw [hd2] at hnx hit2 hbw2
      obtain ⟨W1, hW1⟩ : ∃ W1, W1 = wr.iterAt w.heap.size res (pos + 1) := ⟨_, rfl⟩
      rw [← hW1] at hnx hit2 hbw2
      have hne : ((r : Int) == 65533) = false := by simp; omega
      clear hW1 hit hbw hr hd2
      go_wp2
      go_roundw
      case rel => exact ⟨_, hit2, hbw2, by omega⟩
      case measure => rw [iterPos_of hit2, hpos0]; omega
    · have hnx : ∀ ty, (Instr.next (.pointer (some ⟨w.heap.size, 0, none⟩)) true ty).run Tryz.prog wr = _ := fun ty => Lib.run_next_end_at wr w.heap.size res pos ty hit (by rw [res_size]; exact hp)
      go_wp2
      go_ret
      exact ⟨rfl, hbw⟩

theorem containsRune_far (r : Nat) (h0 : 128 ≤ r) (h1 : r ≤ 1114111) (h2 : r < 55296 ∨ 57344 ≤ r) (w : World) :
    Calls Tryz.prog 152 #[.string res, .int .i32 r] w fun e w' => e = .returned (.bool false) ∧ Below w.heap.size w w' := by
  have h : Calls Tryz.prog 170 #[.string res, .int .i32 r] w fun e w' => e = .returned (.int .i64 (-1)) ∧ Below w.heap.size w w' := by
    by_cases h3 : r = 65533
    · subst h3; exact indexRune_fffd w
    · refine (indexRune_far r h0 h1 h2 h3 w).mono ?_
      rintro e w' ⟨rfl, n, rfl⟩
      exact ⟨rfl, below_drewN (Below.refl _ _) n⟩
  have H := Lib.hid h
  clear h h2
  go_enter Tryz.func152, Tryz.ntmps152
  go_wp2_with (go_at_call 170; refine H.out.mono ?_; rintro e w' ⟨rfl, hb⟩)
  go_ret
  exact ⟨rfl, hb⟩

theorem plain_ascii : ∀ r, r < 127 → 33 ≤ r → (decide (0 ≤ Lib.indexByte res.data.toList r.toUInt8)) = !Gly.plainB r := by decide +kernel

set_option maxHeartbeats 1000000 in
theorem plain_any (r : Nat) (h1 : r ≤ 1114111) (h2 : r < 55296 ∨ 57344 ≤ r) (w : World) :
    Calls Tryz.prog 116 #[.int .i32 r] w fun e w' => e = .returned (.bool (Gly.plainB r)) ∧ Below w.heap.size w w' := by
  by_cases c1 : r < 33
  · have d : Gly.plainB r = false := by simp [Gly.plainB]; omega
    rw [d]
    clear d h2
    go_enter Tryz.func116, Tryz.ntmps116
    go_wp2
    go_ret
    exact ⟨rfl, Below.refl _ _⟩
  · by_cases c2 : r < 127
    · have h := flip (Tryz.strings_ContainsRune_ascii res (r : Int) w (by omega) (by omega))
      rw [show ((r : Int)).toNat = r by omega, plain_ascii r c2 (by omega)] at h
      have H := Lib.hid h
      clear h h2
      cases hp : Gly.plainB r with
      | true =>
        have H' := H.out
        rw [hp] at H'
        have HH := Lib.hid H'
        clear H' H hp
        go_enter Tryz.func116, Tryz.ntmps116
        go_wp2_with (go_at_call 152; refine HH.out.mono ?_; rintro e w' ⟨rfl, rfl⟩)
        go_ret
        exact ⟨rfl, Below.refl _ _⟩
      | false =>
        have H' := H.out
        rw [hp] at H'
        have HH := Lib.hid H'
        clear H' H hp
        go_enter Tryz.func116, Tryz.ntmps116
        go_wp2_with (go_at_call 152; refine HH.out.mono ?_; rintro e w' ⟨rfl, rfl⟩)
        go_ret
        exact ⟨rfl, Below.refl _ _⟩
    · by_cases c3 : r ≤ 160
      · have d : Gly.plainB r = false := by simp [Gly.plainB]; omega
        rw [d]
        clear d h2
        go_enter Tryz.func116, Tryz.ntmps116
        go_wp2
        go_ret
        exact ⟨rfl, Below.refl _ _⟩
      · have d : Gly.plainB r = true := by simp [Gly.plainB]; omega
        rw [d]
        have H := Lib.hid (containsRune_far r (by omega) h1 h2 w)
        clear d h2
        go_enter Tryz.func116, Tryz.ntmps116
        go_wp2_with (go_at_call 152; refine H.out.mono ?_; rintro e w' ⟨rfl, hb⟩)
        go_ret
        exact ⟨rfl, hb⟩

set_option maxHeartbeats 2000000 in
set_option maxRecDepth 100000 in
theorem id_free (s : ByteArray) (w : World) :
    Calls Tryz.prog 86 #[.string s] w fun e w' => e = .returned (.bool (Gly.idB s.data.toList)) ∧ Below w.heap.size w w' := by
  go_enter Tryz.func86, Tryz.ntmps86
  go_wp2
  go_loopw [3] (fun v wr => ∃ (pos n : Nat), v = .int .i64 n ∧ wr.heap[w.heap.size]? = some (.stringIter s pos) ∧ Below w.heap.size w wr ∧ Hid (Gly.idFrom n (s.data.toList.drop pos) = Gly.idB s.data.toList) ∧ n ≤ 24 ∧ pos ≤ s.size) (fun _ wr => s.size - wr.iterPos w.heap.size)
  case atStart => exact ⟨0, 0, rfl, World.iter_heap w s 0, (Below.refl _ _).alloc (Nat.le_refl _) _, rfl, by omega, by omega⟩
  case round =>
    obtain ⟨pos, n, rfl, hit, hbw, HS, hn, hps⟩ := hrel
    have hpos0 := iterPos_of hit
    by_cases hp : pos < s.size
    · have hnx : ∀ ty, (Instr.next (.pointer (some ⟨w.heap.size, 0, none⟩)) true ty).run Tryz.prog wr = _ := fun ty => Lib.run_next_any_at wr w.heap.size s pos ty hit hp
      have hne := drop_ne hp
      have hwd := width s pos hp
      have hit2 := Lib.iterAt_heap wr w.heap.size s pos (pos + (Utf8.decode s pos).2) hit
      have hbw2 := Lib.below_iterAt hbw (k := w.heap.size) (Nat.le_refl _) s (pos + (Utf8.decode s pos).2)
      have hst := stray_dec s pos hp
      have hru := Gly.dec_rune _ hne
      have hmx := Gly.dec_max _ hne
      have hpl := plain_any (Utf8.decode s pos).1 (by rw [Gly.dec_at]; exact hmx) (by rw [Gly.dec_at]; omega)
      have hid := Gly.idFrom_step n hne
      rw [drop_next, ← Gly.dec_at] at hid
      rw [HS.out] at hid
      obtain ⟨W1, hW1⟩ : ∃ W1, W1 = wr.iterAt w.heap.size s (pos + (Utf8.decode s pos).2) := ⟨_, rfl⟩
      rw [← hW1] at hnx hit2 hbw2
      have hlt := lt_of_block hit2
      clear hW1 hit hbw hru hmx
      by_cases h24 : 24 < n + 1
      · rw [if_pos h24] at hid
        have HI := Lib.hid hid
        clear hid hst hpl
        go_wp2
        go_ret
        exact ⟨by rw [HI.out]; rfl, hbw2⟩
      · rw [if_neg h24] at hid
        cases hp1 : Gly.plainB (Utf8.decode s pos).1 with
        | false =>
          rw [hp1] at hid hpl
          simp only [Bool.false_and, Bool.false_eq_true, if_false] at hid
          have HI := Lib.hid hid
          have HP := Lib.hid hpl
          clear hid hst hpl hp1
          go_wp2_with (go_at_call 116; refine (HP.out _).mono ?_; rintro e w' ⟨rfl, hb⟩)
          go_ret
          exact ⟨by rw [HI.out]; rfl, hbw2.trans (hb.mono (by omega))⟩
        | true =>
          rw [hp1] at hid hpl
          cases hp2 : Gly.bad (s.data.toList.drop pos) with
          | true =>
            rw [hp2] at hid hst
            simp only [Bool.true_and, Bool.not_true, Bool.false_eq_true, if_false] at hid
            have HI := Lib.hid hid
            have HP := Lib.hid hpl
            have HT := Lib.hid hst
            clear hid hst hpl hp1 hp2
            go_wp2_with (go_at_call 116; refine (HP.out _).mono ?_; rintro e w' ⟨rfl, hb⟩)
            go_wp2_with (go_at_call 117; refine (HT.out _).mono ?_; rintro e w'' ⟨rfl, rfl⟩)
            go_ret
            exact ⟨by rw [HI.out]; rfl, hbw2.trans (hb.mono (by omega))⟩
          | false =>
            rw [hp2] at hid hst
            simp only [Bool.true_and, Bool.not_false, if_true] at hid
            have HI := Lib.hid hid.symm
            have HP := Lib.hid hpl
            have HT := Lib.hid hst
            clear hid hst hpl hp1 hp2
            go_wp2_with (go_at_call 116; refine (HP.out _).mono ?_; rintro e w' ⟨rfl, hb⟩)
            have hit3 := (hb.block _ hlt).trans hit2
            have hbw3 := hbw2.trans (hb.mono (Nat.le_of_lt hlt))
            clear hb hit2 hbw2 hlt
            go_wp2_with (go_at_call 117; refine (HT.out _).mono ?_; rintro e w'' ⟨rfl, rfl⟩)
            go_roundw
            case rel => exact ⟨_, n + 1, by go_num, hit3, hbw3, HI, by omega, by omega⟩
            case measure => rw [iterPos_of hit3, hpos0]; omega
    · have hnx : ∀ ty, (Instr.next (.pointer (some ⟨w.heap.size, 0, none⟩)) true ty).run Tryz.prog wr = _ := fun ty => Lib.run_next_end_at wr w.heap.size s pos ty hit hp
      have hc := HS.out
      rw [drop_end hp, Gly.idFrom_nil] at hc
      have HC := Lib.hid hc
      clear hc
      go_wp2
      go_ret
      exact ⟨by rw [← HC.out]; simp, hbw⟩
theorem id_any (s : ByteArray) (w : World) (_hs : s.size ≤ 4000000) :
    Calls Tryz.prog 86 #[.string s] w fun e w' => e = .returned (.bool (Gly.idB s.data.toList)) ∧ Below w.heap.size w w' := id_free s w
end Gl
end Go.Proofs.YtopncohhagebbaaGreatDoor

namespace Go.Proofs.YtopncohhagebbaaGreatDoor
open Go.RowKit
namespace Gl

theorem letter_any (r : Nat) (hr : r ≤ 1114111) (w : World) :
    Calls Tryz.prog 87 #[.int .i32 r] w fun e w' => e = .returned (.bool (Gly.letterB r)) ∧ w = w' := by
  by_cases h1 : 97 ≤ r
  · by_cases h2 : r ≤ 122
    all_goals
      go_enter Tryz.func87, Tryz.ntmps87
      go_wp2
      go_ret
      exact ⟨by simp [Gly.letterB, h1, h2]; try omega, rfl⟩
  · go_enter Tryz.func87, Tryz.ntmps87
    go_wp2
    go_ret
    exact ⟨by simp [Gly.letterB, h1], rfl⟩

theorem digit_any (r : Nat) (hr : r ≤ 1114111) (w : World) :
    Calls Tryz.prog 88 #[.int .i32 r] w fun e w' => e = .returned (.bool (Gly.digitB r)) ∧ w = w' := by
  by_cases h1 : 48 ≤ r
  · by_cases h2 : r ≤ 57
    all_goals
      go_enter Tryz.func88, Tryz.ntmps88
      go_wp2
      go_ret
      exact ⟨by simp [Gly.digitB, h1, h2]; try omega, rfl⟩
  · go_enter Tryz.func88, Tryz.ntmps88
    go_wp2
    go_ret
    exact ⟨by simp [Gly.digitB, h1], rfl⟩

set_option maxHeartbeats 2000000 in
set_option maxRecDepth 100000 in
theorem name_in (s : ByteArray) (w : World) (h1 : 1 ≤ s.size) (h2 : s.size ≤ 16) :
    Calls Tryz.prog 52 #[.string s] w fun e w' => e = .returned (.bool (Gly.nameOk true s.data.toList)) ∧ Below w.heap.size w w' := by
  have e1 : s.toList.isEmpty = false := by rw [Lib.toList_data]; cases h : s.data.toList with
    | nil => rw [Lib.size_eq, h] at h1; simp at h1
    | cons a t => rfl
  have e2 : (s.toList == []) = false := by rw [Lib.toList_data]; cases h : s.data.toList with
    | nil => rw [Lib.size_eq, h] at h1; simp at h1
    | cons a t => rfl
  go_enter Tryz.func52, Tryz.ntmps52
  go_wp2
  go_loopw [] (fun wr => ∃ (pos : Nat), wr.heap[w.heap.size]? = some (.stringIter s pos) ∧ Below w.heap.size w wr ∧ Hid (Gly.nameOk (pos == 0) (s.data.toList.drop pos) = Gly.nameOk true s.data.toList) ∧ pos ≤ s.size) (fun wr => s.size - wr.iterPos w.heap.size)
  case atStart => exact ⟨0, World.iter_heap w s 0, (Below.refl _ _).alloc (Nat.le_refl _) _, rfl, by omega⟩
  case round =>
    clear e1 e2
    obtain ⟨pos, hit, hbw, HS, hps⟩ := hrel
    have hpos0 := iterPos_of hit
    by_cases hp : pos < s.size
    · have hnx : ∀ ty, (Instr.next (.pointer (some ⟨w.heap.size, 0, none⟩)) true ty).run Tryz.prog wr = _ := fun ty => Lib.run_next_any_at wr w.heap.size s pos ty hit hp
      have hne := drop_ne hp
      have hwd := width s pos hp
      have hit2 := Lib.iterAt_heap wr w.heap.size s pos (pos + (Utf8.decode s pos).2) hit
      have hbw2 := Lib.below_iterAt hbw (k := w.heap.size) (Nat.le_refl _) s (pos + (Utf8.decode s pos).2)
      have hmx := Gly.dec_max _ hne
      have hst := Gly.nameOk_rune hne (pos == 0)
      rw [drop_next, HS.out, ← Gly.dec_at] at hst
      rw [← Gly.dec_at] at hmx
      have hle := letter_any (Utf8.decode s pos).1 hmx
      have hdi := digit_any (Utf8.decode s pos).1 hmx
      obtain ⟨W1, hW1⟩ : ∃ W1, W1 = wr.iterAt w.heap.size s (pos + (Utf8.decode s pos).2) := ⟨_, rfl⟩
      rw [← hW1] at hnx hit2 hbw2
      have hpz : (pos + (Utf8.decode s pos).2 == 0) = false := by simp; omega
      have HZ := Lib.hid hpz
      clear hW1 hit hbw hpz hne
      cases hl : Gly.letterB (Utf8.decode s pos).1 with
      | true =>
        rw [hl] at hst hle
        have HL := Lib.hid hle
        have HN := Lib.hid hst
        clear hl hst hle hdi
        go_wp2_with (go_at_call 87; refine (HL.out _).mono ?_; rintro e w' ⟨rfl, rfl⟩)
        go_roundw
        case rel => exact ⟨_, hit2, hbw2, Lib.hid (by rw [HZ.out, HN.out]; simp), hwd.2⟩
        case measure => rw [iterPos_of hit2, hpos0]; omega
      | false =>
        rw [hl] at hst hle
        have HL := Lib.hid hle
        by_cases h0 : pos = 0
        · subst h0
          have HN := Lib.hid hst
          clear hl hst hle hdi
          go_wp2_with (go_at_call 87; refine (HL.out _).mono ?_; rintro e w' ⟨rfl, rfl⟩)
          go_ret
          exact ⟨by rw [HN.out]; rfl, hbw2⟩
        · have p0 : (pos == 0) = false := by simp; omega
          have p1 : ((pos : Int) == 0) = false := by simp; omega
          rw [p0] at hst
          clear p0
          cases hd : Gly.digitB (Utf8.decode s pos).1 with
          | true =>
            rw [hd] at hst hdi
            have HD := Lib.hid hdi
            have HN := Lib.hid hst
            clear hl hst hle hdi hd
            go_wp2_with (first
              | (go_at_call 87; refine (HL.out _).mono ?_; rintro e w' ⟨rfl, rfl⟩)
              | (go_at_call 88; refine (HD.out _).mono ?_; rintro e w' ⟨rfl, rfl⟩))
            go_roundw
            case rel => exact ⟨_, hit2, hbw2, Lib.hid (by rw [HZ.out, HN.out]; simp), hwd.2⟩
            case measure => rw [iterPos_of hit2, hpos0]; omega
          | false =>
            rw [hd] at hst hdi
            have HD := Lib.hid hdi
            by_cases h95 : (Utf8.decode s pos).1 = 95
            · rw [h95] at hst
              have HN := Lib.hid hst
              have hn1 : (((Utf8.decode s pos).1 : Int) != 95) = false := by rw [h95]; rfl
              clear hl hst hle hdi hd h95
              go_wp2_with (first
                | (go_at_call 87; refine (HL.out _).mono ?_; rintro e w' ⟨rfl, rfl⟩)
                | (go_at_call 88; refine (HD.out _).mono ?_; rintro e w' ⟨rfl, rfl⟩))
              go_roundw
              case rel => exact ⟨_, hit2, hbw2, Lib.hid (by rw [HZ.out, HN.out]; simp), hwd.2⟩
              case measure => rw [iterPos_of hit2, hpos0]; omega
            · have hn0 : ((Utf8.decode s pos).1 == 95) = false := by simp [h95]
              rw [hn0] at hst
              have HN := Lib.hid hst
              have hn1 : (((Utf8.decode s pos).1 : Int) != 95) = true := by rw [bne_iff_ne]; omega
              clear hl hst hle hdi hd h95 hn0
              go_wp2_with (first
                | (go_at_call 87; refine (HL.out _).mono ?_; rintro e w' ⟨rfl, rfl⟩)
                | (go_at_call 88; refine (HD.out _).mono ?_; rintro e w' ⟨rfl, rfl⟩))
              go_ret
              exact ⟨by rw [HN.out]; rfl, hbw2⟩
    · have hnx : ∀ ty, (Instr.next (.pointer (some ⟨w.heap.size, 0, none⟩)) true ty).run Tryz.prog wr = _ := fun ty => Lib.run_next_end_at wr w.heap.size s pos ty hit hp
      have hc := HS.out
      rw [drop_end hp, Gly.nameOk] at hc
      have HC := Lib.hid hc
      clear hc
      go_wp2
      go_ret
      exact ⟨by rw [← HC.out]; rfl, hbw⟩

set_option maxHeartbeats 1000000 in
set_option maxRecDepth 100000 in
theorem name_free (s : ByteArray) (w : World) :
    Calls Tryz.prog 52 #[.string s] w fun e w' => e = .returned (.bool (Gly.nameB s.data.toList)) ∧ Below w.heap.size w w' := by
  by_cases h0 : 1 ≤ s.size ∧ s.size ≤ 16
  · have h := name_in s w h0.1 h0.2
    rw [Gly.nameB, ← Lib.size_eq, decide_eq_true h0, Bool.true_and]
    exact h
  · rw [Gly.nameB, ← Lib.size_eq, decide_eq_false h0, Bool.false_and]
    by_cases h1 : s.size = 0
    · have e : s = ⟨#[]⟩ := by
        cases s with
        | mk d =>
          have : d.size = 0 := h1
          rw [Array.eq_empty_of_size_eq_zero this]
      subst e
      clear h0 h1
      go_enter Tryz.func52, Tryz.ntmps52
      go_wp2
      go_ret
      exact ⟨rfl, Below.refl _ _⟩
    · have h2 : 16 < s.size := by omega
      have e1 : s.toList.isEmpty = false := by rw [Lib.toList_data]; cases h : s.data.toList with
        | nil => rw [Lib.size_eq, h] at h2; simp at h2
        | cons a t => rfl
      have e2 : (s.toList == []) = false := by rw [Lib.toList_data]; cases h : s.data.toList with
        | nil => rw [Lib.size_eq, h] at h2; simp at h2
        | cons a t => rfl
      clear h0
      go_enter Tryz.func52, Tryz.ntmps52
      go_wp2
      go_ret
      exact ⟨rfl, Below.refl _ _⟩
theorem name_any (s : ByteArray) (w : World) (_hs : s.size ≤ 4000000) :
    Calls Tryz.prog 52 #[.string s] w fun e w' => e = .returned (.bool (Gly.nameB s.data.toList)) ∧ Below w.heap.size w w' := name_free s w
end Gl
end Go.Proofs.YtopncohhagebbaaGreatDoor

namespace Go.Proofs.YtopncohhagebbaaGreatDoor
open Go.RowKit
namespace Ref

def rv (l : List UInt8) : Value := .tuple #[.int .i64 (Gly.rr l).1, .int .i64 (Gly.rr l).2]
theorem rv_zero {l : List UInt8} (h : Gly.rr l = (0, 0)) : rv l = .tuple #[.int .i64 0, .int .i64 0] := by rw [rv, h]; rfl
theorem rv_out {l : List UInt8} {r : Int} {n : Nat} (h : Gly.rr l = (r.toNat, n)) (hr : 0 ≤ r) : rv l = .tuple #[.int .i64 r, .int .i64 n] := by
  rw [rv, h]
  show Value.tuple #[.int .i64 ((r.toNat : Nat) : Int), .int .i64 (n : Int)] = _
  rw [Int.toNat_of_nonneg hr]

set_option maxHeartbeats 1000000 in
set_option maxRecDepth 100000 in
theorem rune_one (s : ByteArray) (p : Nat) (hp : p < s.size) (_hs : s.size ≤ 4000000) (w : World) (h : (s[p]).toNat < 128) :
    Calls Tryz.prog 118 #[.string s, .int .i64 p] w fun e w' => e = .returned (rv (s.data.toList.drop p)) ∧ w = w' := by
  have hr := Gly.rr_one (l := s.data.toList.drop p) (by rw [byte_at0 hp]; exact h)
  have hv : rv (s.data.toList.drop p) = .tuple #[.int .i64 ((s[p]).toNat : Int), .int .i64 1] := by rw [rv, hr, byte_at0 hp]; rfl
  have HV := Lib.hid hv
  clear hv hr
  go_enter Tryz.func118, Tryz.ntmps118
  go_wp2
  go_ret2
  exact ⟨by rw [HV.out]; rfl, rfl⟩

set_option maxHeartbeats 1000000 in
set_option maxRecDepth 100000 in
theorem rune_none (s : ByteArray) (p : Nat) (hp : p < s.size) (_hs : s.size ≤ 4000000) (w : World) (h : (128 ≤ (s[p]).toNat ∧ (s[p]).toNat < 192) ∨ 248 ≤ (s[p]).toNat) :
    Calls Tryz.prog 118 #[.string s, .int .i64 p] w fun e w' => e = .returned (rv (s.data.toList.drop p)) ∧ w = w' := by
  have hr := rv_zero (Gly.rr_none (l := s.data.toList.drop p) (by rw [byte_at0 hp]; exact h))
  have HV := Lib.hid hr
  clear hr
  have hb := (s[p]).toNat_lt
  rcases h with ⟨h1, h2⟩ | h1
  · go_enter Tryz.func118, Tryz.ntmps118
    go_wp2
    go_ret2
    exact ⟨by rw [HV.out]; rfl, rfl⟩
  · go_enter Tryz.func118, Tryz.ntmps118
    go_wp2
    go_ret2
    exact ⟨by rw [HV.out]; rfl, rfl⟩

set_option maxHeartbeats 2000000 in
set_option maxRecDepth 100000 in
theorem rune_short2 (s : ByteArray) (p : Nat) (hp : p < s.size) (hs : s.size ≤ 4000000) (w : World) (h1 : 192 ≤ (s[p]).toNat) (h2 : (s[p]).toNat < 224) (hl : s.size - p < 2) :
    Calls Tryz.prog 118 #[.string s, .int .i64 p] w fun e w' => e = .returned (rv (s.data.toList.drop p)) ∧ w = w' := by
  have hr := rv_zero (Gly.rr_short (l := s.data.toList.drop p) (n := 2) (by rw [byte_at0 hp]; omega) (by rw [len_drop]; exact hl))
  have HV := Lib.hid hr
  clear hr
  go_enter Tryz.func118, Tryz.ntmps118
  go_wp2
  go_ret2
  exact ⟨by rw [HV.out]; rfl, rfl⟩

set_option maxHeartbeats 4000000 in
set_option maxRecDepth 100000 in
theorem rune_long2 (s : ByteArray) (p : Nat) (hp : p < s.size) (hs : s.size ≤ 4000000) (w : World) (h1 : 192 ≤ (s[p]).toNat) (h2 : (s[p]).toNat < 224) (hl : 2 ≤ s.size - p) :
    Calls Tryz.prog 118 #[.string s, .int .i64 p] w fun e w' => e = .returned (rv (s.data.toList.drop p)) ∧ w = w' := by
  have hb0 : 192 ≤ Gly.byte (s.data.toList.drop p) 0 ∧ Gly.byte (s.data.toList.drop p) 0 < 224 := by rw [byte_at0 hp]; omega
  have hstart : (((s[p]).toNat : Int) - 192) = Gly.pr (s.data.toList.drop p) 192 1 := by rw [Gly.pr_one, byte_at0 hp]; rfl
  have HB := Lib.hid hb0
  have HS := Lib.hid hstart
  clear hb0 hstart
  have d1 : decide (((s[p]).toNat : Int) < 128) = false := by simp; omega
  have e0 : decide (192 ≤ ((s[p]).toNat : Int)) = true := by simp; omega
  have f0 : decide (((s[p]).toNat : Int) < 224) = true := by simp; omega
  have dl : decide (((s.size : Int) - (p : Int)) < 2) = false := by simp; omega
  go_enter Tryz.func118, Tryz.ntmps118
  go_wp2
  go_loop [8, 10] (fun r i => ∃ k : Nat, 1 ≤ k ∧ k ≤ 2 ∧ i = .int .i64 k ∧ Hid (r = .int .i64 (Gly.pr (s.data.toList.drop p) 192 k)) ∧ Hid (∀ j, 1 ≤ j → j < k → Gly.cont (s.data.toList.drop p) j)) (fun _ i => 2 - (intOf i).toNat)
  case atStart => exact ⟨1, by omega, by omega, rfl, Lib.hid (by rw [← HS.out]), Lib.hid (fun j _ _ => by omega)⟩
  case round =>
    obtain ⟨k, hk1, hk2, rfl, HR, HJ⟩ := hrel
    have hr := HR.out
    subst hr
    have hbd := Gly.pr_bounds (s.data.toList.drop p) 192 HB.out.1 (by have := HB.out.2; omega) k hk1 (by omega) HJ.out
    obtain ⟨hbd1, hbd2⟩ := hbd
    by_cases hlt : k < 2
    · have hpk : p + k < s.size := by omega
      have hby := byte_at hpk
      have hbk := (s[p + k]).toNat_lt
      have hps := Gly.pr_succ (s.data.toList.drop p) 192 k hk1
      rw [hby] at hps
      have HY := Lib.hid hby
      have HP := Lib.hid hps
      clear hby hps
      by_cases hc : (s[p + k]).toNat < 128 ∨ 191 < (s[p + k]).toNat
      · have hz := rv_zero (Gly.rr_cut (l := s.data.toList.drop p) (n := 2) (by have := HB.out; omega) hk1 hlt (by rw [HY.out]; exact hc))
        have HZ := Lib.hid hz
        clear hz
        rcases hc with hc | hc
        · go_wp2
          go_ret2
          exact ⟨by rw [HZ.out]; rfl, rfl⟩
        · go_wp2
          go_ret2
          exact ⟨by rw [HZ.out]; rfl, rfl⟩
      · have hc1 : 128 ≤ (s[p + k]).toNat := by omega
        have hc2 : (s[p + k]).toNat ≤ 191 := by omega
        clear hc
        go_wp2
        go_round
        case rel => exact ⟨k + 1, by omega, by omega, by go_num, Lib.hid (by rw [HP.out]), Lib.hid (fun j hj1 hj2 => by
          by_cases e : j = k
          · subst e; unfold Gly.cont; rw [HY.out]; exact ⟨hc1, hc2⟩
          · exact HJ.out j hj1 (by omega))⟩
        case measure => simp [intOf]; omega
    · have hkn : k = 2 := by omega
      subst hkn
      have hf : Gly.rr (s.data.toList.drop p) = Gly.out (Gly.pr (s.data.toList.drop p) 192 2) 2 128 := Gly.rr_two HB.out (by rw [len_drop]; exact hl) (HJ.out 1 (by omega) (by omega))
      generalize Gly.pr (s.data.toList.drop p) 192 2 = R at *
      have HF := Lib.hid hf
      clear hf
      go_wp2
      all_goals
        go_ret2
        first
          | exact ⟨by rw [rv_zero (HF.out.trans (Gly.out_bad (by omega)))]; rfl, rfl⟩
          | exact ⟨by rw [rv_out (HF.out.trans (Gly.out_good (by omega))) (by omega)]; rfl, rfl⟩

set_option maxHeartbeats 2000000 in
set_option maxRecDepth 100000 in
theorem rune_short3 (s : ByteArray) (p : Nat) (hp : p < s.size) (hs : s.size ≤ 4000000) (w : World) (h1 : 224 ≤ (s[p]).toNat) (h2 : (s[p]).toNat < 240) (hl : s.size - p < 3) :
    Calls Tryz.prog 118 #[.string s, .int .i64 p] w fun e w' => e = .returned (rv (s.data.toList.drop p)) ∧ w = w' := by
  have hr := rv_zero (Gly.rr_short (l := s.data.toList.drop p) (n := 3) (by rw [byte_at0 hp]; omega) (by rw [len_drop]; exact hl))
  have HV := Lib.hid hr
  clear hr
  go_enter Tryz.func118, Tryz.ntmps118
  go_wp2
  go_ret2
  exact ⟨by rw [HV.out]; rfl, rfl⟩

set_option maxHeartbeats 4000000 in
set_option maxRecDepth 100000 in
theorem rune_long3 (s : ByteArray) (p : Nat) (hp : p < s.size) (hs : s.size ≤ 4000000) (w : World) (h1 : 224 ≤ (s[p]).toNat) (h2 : (s[p]).toNat < 240) (hl : 3 ≤ s.size - p) :
    Calls Tryz.prog 118 #[.string s, .int .i64 p] w fun e w' => e = .returned (rv (s.data.toList.drop p)) ∧ w = w' := by
  have hb0 : 224 ≤ Gly.byte (s.data.toList.drop p) 0 ∧ Gly.byte (s.data.toList.drop p) 0 < 240 := by rw [byte_at0 hp]; omega
  have hstart : (((s[p]).toNat : Int) - 224) = Gly.pr (s.data.toList.drop p) 224 1 := by rw [Gly.pr_one, byte_at0 hp]; rfl
  have HB := Lib.hid hb0
  have HS := Lib.hid hstart
  clear hb0 hstart
  have d1 : decide (((s[p]).toNat : Int) < 128) = false := by simp; omega
  have e0 : decide (192 ≤ ((s[p]).toNat : Int)) = true := by simp; omega
  have f0 : decide (((s[p]).toNat : Int) < 224) = false := by simp; omega
  have e1 : decide (224 ≤ ((s[p]).toNat : Int)) = true := by simp; omega
  have f1 : decide (((s[p]).toNat : Int) < 240) = true := by simp; omega
  have dl : decide (((s.size : Int) - (p : Int)) < 3) = false := by simp; omega
  go_enter Tryz.func118, Tryz.ntmps118
  go_wp2
  go_loop [8, 10] (fun r i => ∃ k : Nat, 1 ≤ k ∧ k ≤ 3 ∧ i = .int .i64 k ∧ Hid (r = .int .i64 (Gly.pr (s.data.toList.drop p) 224 k)) ∧ Hid (∀ j, 1 ≤ j → j < k → Gly.cont (s.data.toList.drop p) j)) (fun _ i => 3 - (intOf i).toNat)
  case atStart => exact ⟨1, by omega, by omega, rfl, Lib.hid (by rw [← HS.out]), Lib.hid (fun j _ _ => by omega)⟩
  case round =>
    obtain ⟨k, hk1, hk2, rfl, HR, HJ⟩ := hrel
    have hr := HR.out
    subst hr
    have hbd := Gly.pr_bounds (s.data.toList.drop p) 224 HB.out.1 (by have := HB.out.2; omega) k hk1 (by omega) HJ.out
    obtain ⟨hbd1, hbd2⟩ := hbd
    by_cases hlt : k < 3
    · have hpk : p + k < s.size := by omega
      have hby := byte_at hpk
      have hbk := (s[p + k]).toNat_lt
      have hps := Gly.pr_succ (s.data.toList.drop p) 224 k hk1
      rw [hby] at hps
      have HY := Lib.hid hby
      have HP := Lib.hid hps
      clear hby hps
      by_cases hc : (s[p + k]).toNat < 128 ∨ 191 < (s[p + k]).toNat
      · have hz := rv_zero (Gly.rr_cut (l := s.data.toList.drop p) (n := 3) (by have := HB.out; omega) hk1 hlt (by rw [HY.out]; exact hc))
        have HZ := Lib.hid hz
        clear hz
        rcases hc with hc | hc
        · go_wp2
          go_ret2
          exact ⟨by rw [HZ.out]; rfl, rfl⟩
        · go_wp2
          go_ret2
          exact ⟨by rw [HZ.out]; rfl, rfl⟩
      · have hc1 : 128 ≤ (s[p + k]).toNat := by omega
        have hc2 : (s[p + k]).toNat ≤ 191 := by omega
        clear hc
        go_wp2
        go_round
        case rel => exact ⟨k + 1, by omega, by omega, by go_num, Lib.hid (by rw [HP.out]), Lib.hid (fun j hj1 hj2 => by
          by_cases e : j = k
          · subst e; unfold Gly.cont; rw [HY.out]; exact ⟨hc1, hc2⟩
          · exact HJ.out j hj1 (by omega))⟩
        case measure => simp [intOf]; omega
    · have hkn : k = 3 := by omega
      subst hkn
      have hf : Gly.rr (s.data.toList.drop p) = Gly.out (Gly.pr (s.data.toList.drop p) 224 3) 3 2048 := Gly.rr_three HB.out (by rw [len_drop]; exact hl) (HJ.out 1 (by omega) (by omega)) (HJ.out 2 (by omega) (by omega))
      generalize Gly.pr (s.data.toList.drop p) 224 3 = R at *
      have HF := Lib.hid hf
      clear hf
      go_wp2
      all_goals
        go_ret2
        first
          | exact ⟨by rw [rv_zero (HF.out.trans (Gly.out_bad (by omega)))]; rfl, rfl⟩
          | exact ⟨by rw [rv_out (HF.out.trans (Gly.out_good (by omega))) (by omega)]; rfl, rfl⟩

set_option maxHeartbeats 2000000 in
set_option maxRecDepth 100000 in
theorem rune_short4 (s : ByteArray) (p : Nat) (hp : p < s.size) (hs : s.size ≤ 4000000) (w : World) (h1 : 240 ≤ (s[p]).toNat) (h2 : (s[p]).toNat < 248) (hl : s.size - p < 4) :
    Calls Tryz.prog 118 #[.string s, .int .i64 p] w fun e w' => e = .returned (rv (s.data.toList.drop p)) ∧ w = w' := by
  have hr := rv_zero (Gly.rr_short (l := s.data.toList.drop p) (n := 4) (by rw [byte_at0 hp]; omega) (by rw [len_drop]; exact hl))
  have HV := Lib.hid hr
  clear hr
  go_enter Tryz.func118, Tryz.ntmps118
  go_wp2
  go_ret2
  exact ⟨by rw [HV.out]; rfl, rfl⟩

set_option maxHeartbeats 4000000 in
set_option maxRecDepth 100000 in
theorem rune_long4 (s : ByteArray) (p : Nat) (hp : p < s.size) (hs : s.size ≤ 4000000) (w : World) (h1 : 240 ≤ (s[p]).toNat) (h2 : (s[p]).toNat < 248) (hl : 4 ≤ s.size - p) :
    Calls Tryz.prog 118 #[.string s, .int .i64 p] w fun e w' => e = .returned (rv (s.data.toList.drop p)) ∧ w = w' := by
  have hb0 : 240 ≤ Gly.byte (s.data.toList.drop p) 0 ∧ Gly.byte (s.data.toList.drop p) 0 < 248 := by rw [byte_at0 hp]; omega
  have hstart : (((s[p]).toNat : Int) - 240) = Gly.pr (s.data.toList.drop p) 240 1 := by rw [Gly.pr_one, byte_at0 hp]; rfl
  have HB := Lib.hid hb0
  have HS := Lib.hid hstart
  clear hb0 hstart
  have d1 : decide (((s[p]).toNat : Int) < 128) = false := by simp; omega
  have e0 : decide (192 ≤ ((s[p]).toNat : Int)) = true := by simp; omega
  have f0 : decide (((s[p]).toNat : Int) < 224) = false := by simp; omega
  have e1 : decide (224 ≤ ((s[p]).toNat : Int)) = true := by simp; omega
  have f1 : decide (((s[p]).toNat : Int) < 240) = false := by simp; omega
  have e2 : decide (240 ≤ ((s[p]).toNat : Int)) = true := by simp; omega
  have f2 : decide (((s[p]).toNat : Int) < 248) = true := by simp; omega
  have dl : decide (((s.size : Int) - (p : Int)) < 4) = false := by simp; omega
  go_enter Tryz.func118, Tryz.ntmps118
  go_wp2
  go_loop [8, 10] (fun r i => ∃ k : Nat, 1 ≤ k ∧ k ≤ 4 ∧ i = .int .i64 k ∧ Hid (r = .int .i64 (Gly.pr (s.data.toList.drop p) 240 k)) ∧ Hid (∀ j, 1 ≤ j → j < k → Gly.cont (s.data.toList.drop p) j)) (fun _ i => 4 - (intOf i).toNat)
  case atStart => exact ⟨1, by omega, by omega, rfl, Lib.hid (by rw [← HS.out]), Lib.hid (fun j _ _ => by omega)⟩
  case round =>
    obtain ⟨k, hk1, hk2, rfl, HR, HJ⟩ := hrel
    have hr := HR.out
    subst hr
    have hbd := Gly.pr_bounds (s.data.toList.drop p) 240 HB.out.1 (by have := HB.out.2; omega) k hk1 (by omega) HJ.out
    obtain ⟨hbd1, hbd2⟩ := hbd
    by_cases hlt : k < 4
    · have hpk : p + k < s.size := by omega
      have hby := byte_at hpk
      have hbk := (s[p + k]).toNat_lt
      have hps := Gly.pr_succ (s.data.toList.drop p) 240 k hk1
      rw [hby] at hps
      have HY := Lib.hid hby
      have HP := Lib.hid hps
      clear hby hps
      by_cases hc : (s[p + k]).toNat < 128 ∨ 191 < (s[p + k]).toNat
      · have hz := rv_zero (Gly.rr_cut (l := s.data.toList.drop p) (n := 4) (by have := HB.out; omega) hk1 hlt (by rw [HY.out]; exact hc))
        have HZ := Lib.hid hz
        clear hz
        rcases hc with hc | hc
        · go_wp2
          go_ret2
          exact ⟨by rw [HZ.out]; rfl, rfl⟩
        · go_wp2
          go_ret2
          exact ⟨by rw [HZ.out]; rfl, rfl⟩
      · have hc1 : 128 ≤ (s[p + k]).toNat := by omega
        have hc2 : (s[p + k]).toNat ≤ 191 := by omega
        clear hc
        go_wp2
        go_round
        case rel => exact ⟨k + 1, by omega, by omega, by go_num, Lib.hid (by rw [HP.out]), Lib.hid (fun j hj1 hj2 => by
          by_cases e : j = k
          · subst e; unfold Gly.cont; rw [HY.out]; exact ⟨hc1, hc2⟩
          · exact HJ.out j hj1 (by omega))⟩
        case measure => simp [intOf]; omega
    · have hkn : k = 4 := by omega
      subst hkn
      have hf : Gly.rr (s.data.toList.drop p) = Gly.out (Gly.pr (s.data.toList.drop p) 240 4) 4 65536 := Gly.rr_four HB.out (by rw [len_drop]; exact hl) (HJ.out 1 (by omega) (by omega)) (HJ.out 2 (by omega) (by omega)) (HJ.out 3 (by omega) (by omega))
      generalize Gly.pr (s.data.toList.drop p) 240 4 = R at *
      have HF := Lib.hid hf
      clear hf
      go_wp2
      all_goals
        go_ret2
        first
          | exact ⟨by rw [rv_zero (HF.out.trans (Gly.out_bad (by omega)))]; rfl, rfl⟩
          | exact ⟨by rw [rv_out (HF.out.trans (Gly.out_good (by omega))) (by omega)]; rfl, rfl⟩

theorem rune_any (s : ByteArray) (p : Nat) (hp : p < s.size) (hs : s.size ≤ 4000000) (w : World) :
    Calls Tryz.prog 118 #[.string s, .int .i64 p] w fun e w' => e = .returned (rv (s.data.toList.drop p)) ∧ w = w' := by
  by_cases c1 : (s[p]).toNat < 128
  · exact rune_one s p hp hs w c1
  · by_cases c2 : (128 ≤ (s[p]).toNat ∧ (s[p]).toNat < 192) ∨ 248 ≤ (s[p]).toNat
    · exact rune_none s p hp hs w c2
    · by_cases c3 : (s[p]).toNat < 224
      · by_cases hl : 2 ≤ s.size - p
        · exact rune_long2 s p hp hs w (by omega) c3 hl
        · exact rune_short2 s p hp hs w (by omega) c3 (by omega)
      · by_cases c4 : (s[p]).toNat < 240
        · by_cases hl : 3 ≤ s.size - p
          · exact rune_long3 s p hp hs w (by omega) c4 hl
          · exact rune_short3 s p hp hs w (by omega) c4 (by omega)
        · by_cases hl : 4 ≤ s.size - p
          · exact rune_long4 s p hp hs w (by omega) (by omega) hl
          · exact rune_short4 s p hp hs w (by omega) (by omega) (by omega)
end Ref
end Go.Proofs.YtopncohhagebbaaGreatDoor

namespace Go.Proofs.YtopncohhagebbaaGreatDoor
open Go.RowKit
namespace Ref

theorem infoInt : (Tryz.prog.info? 3).map (fun i => (i.zero, i.size, i.bytes)) = some (some (.int .i64 0), 1, 8) := by kernel_rfl

/-- Numbers as cells. -/
def nums (t : List Nat) : List Value := t.map fun (r : Nat) => Value.int .i64 (r : Int)
theorem nums_snoc (t : List Nat) (r : Nat) : nums t ++ [Value.int .i64 (r : Int)] = nums (t ++ [r]) := by simp [nums]

/-- What Runes answers: a list of its own, or that the text isn't UTF-8. -/
def RunesOut (B : Nat) (w : World) (o : Option (List Nat)) (e : Ending) (w' : World) : Prop :=
  match o with
  | some t => ∃ v, e = .returned (.tuple #[v, .bool true]) ∧ w'.ownsRow B 3 1 v t.length (nums t) ∧ Below B w w'
  | none => e = .returned (.tuple #[.slice none 0 0, .bool false]) ∧ Below B w w'

theorem rune_bad (s : ByteArray) (p : Nat) (hp : p < s.size) (hs : s.size ≤ 4000000) (w : World) (hb : Gly.bad (s.data.toList.drop p) = true) :
    Calls Tryz.prog 118 #[.string s, .int .i64 p] w fun e w' => e = .returned (.tuple #[.int .i64 0, .int .i64 0]) ∧ w = w' := by
  have h := rune_any s p hp hs w
  rw [rv_zero (Gly.rr_bad hb)] at h
  exact h
theorem rune_good (s : ByteArray) (p : Nat) (hp : p < s.size) (hs : s.size ≤ 4000000) (w : World) (hb : Gly.bad (s.data.toList.drop p) = false) :
    Calls Tryz.prog 118 #[.string s, .int .i64 p] w fun e w' => e = .returned (.tuple #[.int .i64 ((Utf8.decode s p).1 : Int), .int .i64 ((Utf8.decode s p).2 : Int)]) ∧ w = w' := by
  have h := rune_any s p hp hs w
  rw [rv, Gly.rr_good hb, ← Gly.dec_at] at h
  exact h

set_option maxHeartbeats 4000000 in
set_option maxRecDepth 100000 in
theorem runes_any (s : ByteArray) (w : World) (hs : s.size ≤ 4000000) :
    Calls Tryz.prog 89 #[.string s] w (RunesOut w.heap.size w (Gly.runes s.data.toList)) := by
  obtain ⟨i0, hi, hz0, hz1, hz2⟩ := info_parts infoInt
  go_enter Tryz.func89, Tryz.ntmps89
  go_wp2
  go_loopw [4, 5] (fun v a wr => ∃ (p : Nat) (t : List Nat), a = .int .i64 p ∧ wr.ownsRow w.heap.size 3 1 v t.length (nums t) ∧ Below w.heap.size w wr ∧ Hid ((Gly.runes (s.data.toList.drop p)).map (t ++ ·) = Gly.runes s.data.toList) ∧ t.length ≤ p ∧ p ≤ s.size) (fun _ a _ => s.size - (intOf a).toNat)
  case atStart => exact ⟨0, [], rfl, World.ownsRow_nil _ _ _ _, Below.refl _ _, Lib.hid (by simp), by simp, by omega⟩
  case round =>
    obtain ⟨p, t, rfl, hown, hbw, HS, htl, hps⟩ := hrel
    by_cases hp : p < s.size
    · have hwd := Gl.width s p hp
      have hne := Gl.drop_ne hp
      cases hb : Gly.bad (s.data.toList.drop p) with
      | true =>
        have hr := HS.out
        rw [Gly.runes_bad hne hb] at hr
        have HR := Lib.hid hr
        have HC := Lib.hid (fun W => rune_bad s p hp hs W hb)
        clear hr hb hne
        go_wp2_with (go_at_call 118; refine (HC.out _).mono ?_; rintro e w' ⟨rfl, rfl⟩)
        go_ret2
        rw [← HR.out]
        exact ⟨rfl, hbw⟩
      | false =>
        have hr := HS.out
        rw [Gly.runes_step hne hb, Gl.drop_next, Option.map_map, ← Gly.dec_at] at hr
        have HR := Lib.hid hr
        have HC := Lib.hid (fun W => rune_good s p hp hs W hb)
        have hsz := hbw.size
        have hw0 : (((Utf8.decode s p).2 : Int) == 0) = false := by simp; omega
        clear hr hb hne
        go_wp2_with (first
          | (go_at_call 118; refine (HC.out _).mono ?_; rintro e w' ⟨rfl, rfl⟩)
          | (at_builtin; refine wpList_append_own _ rfl _ _ 93 rfl w.heap.size 3 i0 (.int .i64 0) 1 8 Tryz.underlying93 hi hz0 hz1 hz2 rfl (by decide) _ _ _ rfl (hown.alloc _) ⟨wr.heap.size, 0, none⟩ 1 1 [.int .i64 ((Utf8.decode s p).1 : Int)] rfl rfl ?c1 ?c2 ?c3 ?c4 ?c5 ?_))
        case c1 =>
          intro j u hj
          match j, hj with
          | 0, hj => simp at hj; subst hj; simp [Addr.add]
        case c2 => intro u hu; simp at hu; subst hu; rfl
        case c3 => unfold maxLen; omega
        case c4 => omega
        case c5 => simp; omega
        intro v' w3 hown' hgrow3 _
        have hown3 : w3.ownsRow w.heap.size 3 1 v' (t ++ [(Utf8.decode s p).1]).length (nums (t ++ [(Utf8.decode s p).1])) := by
          rw [← nums_snoc, List.length_append]; exact hown'
        have hbw3 : Below w.heap.size w w3 := Below.grown (hbw.alloc (by omega) _) hgrow3 (by simp; omega) (fun j hj => (hown.lt _ hj).1)
        clear hown' hgrow3 hown hbw
        go_wp2
        go_roundw
        case rel => exact ⟨p + (Utf8.decode s p).2, _, by go_num, hown3, hbw3, Lib.hid (by rw [← HR.out]; simp [Function.comp_def]), by simp; omega, by omega⟩
        case measure => simp [intOf]; omega
    · have hr := HS.out
      rw [Gl.drop_end hp, Gly.runes_nil] at hr
      have HR := Lib.hid hr
      clear hr
      go_wp2
      go_ret2
      rw [← HR.out]
      simp only [Option.map_some, List.append_nil]
      exact ⟨_, rfl, hown, hbw⟩
end Ref
end Go.Proofs.YtopncohhagebbaaGreatDoor

namespace Go.Proofs.YtopncohhagebbaaGreatDoor
open Go.RowKit
namespace Ref

theorem sign0 : ∀ w : World, (Instr.index 184 (.agg #[.int .i64 35, .int .i64 64, .int .i64 58, .int .i64 42, .int .i64 44, .int .i64 40, .int .i64 41, .int .i64 34, .int .i64 92, .int .i64 59]) (.int .i64 0)).run Tryz.prog w = .ok (.int .i64 35) w := fun _ => by kernel_rfl
theorem sign1 : ∀ w : World, (Instr.index 184 (.agg #[.int .i64 35, .int .i64 64, .int .i64 58, .int .i64 42, .int .i64 44, .int .i64 40, .int .i64 41, .int .i64 34, .int .i64 92, .int .i64 59]) (.int .i64 1)).run Tryz.prog w = .ok (.int .i64 64) w := fun _ => by kernel_rfl
theorem sign2 : ∀ w : World, (Instr.index 184 (.agg #[.int .i64 35, .int .i64 64, .int .i64 58, .int .i64 42, .int .i64 44, .int .i64 40, .int .i64 41, .int .i64 34, .int .i64 92, .int .i64 59]) (.int .i64 2)).run Tryz.prog w = .ok (.int .i64 58) w := fun _ => by kernel_rfl
theorem sign3 : ∀ w : World, (Instr.index 184 (.agg #[.int .i64 35, .int .i64 64, .int .i64 58, .int .i64 42, .int .i64 44, .int .i64 40, .int .i64 41, .int .i64 34, .int .i64 92, .int .i64 59]) (.int .i64 3)).run Tryz.prog w = .ok (.int .i64 42) w := fun _ => by kernel_rfl
theorem sign4 : ∀ w : World, (Instr.index 184 (.agg #[.int .i64 35, .int .i64 64, .int .i64 58, .int .i64 42, .int .i64 44, .int .i64 40, .int .i64 41, .int .i64 34, .int .i64 92, .int .i64 59]) (.int .i64 4)).run Tryz.prog w = .ok (.int .i64 44) w := fun _ => by kernel_rfl
theorem sign5 : ∀ w : World, (Instr.index 184 (.agg #[.int .i64 35, .int .i64 64, .int .i64 58, .int .i64 42, .int .i64 44, .int .i64 40, .int .i64 41, .int .i64 34, .int .i64 92, .int .i64 59]) (.int .i64 5)).run Tryz.prog w = .ok (.int .i64 40) w := fun _ => by kernel_rfl
theorem sign6 : ∀ w : World, (Instr.index 184 (.agg #[.int .i64 35, .int .i64 64, .int .i64 58, .int .i64 42, .int .i64 44, .int .i64 40, .int .i64 41, .int .i64 34, .int .i64 92, .int .i64 59]) (.int .i64 6)).run Tryz.prog w = .ok (.int .i64 41) w := fun _ => by kernel_rfl
theorem sign7 : ∀ w : World, (Instr.index 184 (.agg #[.int .i64 35, .int .i64 64, .int .i64 58, .int .i64 42, .int .i64 44, .int .i64 40, .int .i64 41, .int .i64 34, .int .i64 92, .int .i64 59]) (.int .i64 7)).run Tryz.prog w = .ok (.int .i64 34) w := fun _ => by kernel_rfl
theorem sign8 : ∀ w : World, (Instr.index 184 (.agg #[.int .i64 35, .int .i64 64, .int .i64 58, .int .i64 42, .int .i64 44, .int .i64 40, .int .i64 41, .int .i64 34, .int .i64 92, .int .i64 59]) (.int .i64 8)).run Tryz.prog w = .ok (.int .i64 92) w := fun _ => by kernel_rfl
theorem sign9 : ∀ w : World, (Instr.index 184 (.agg #[.int .i64 35, .int .i64 64, .int .i64 58, .int .i64 42, .int .i64 44, .int .i64 40, .int .i64 41, .int .i64 34, .int .i64 92, .int .i64 59]) (.int .i64 9)).run Tryz.prog w = .ok (.int .i64 59) w := fun _ => by kernel_rfl

set_option maxHeartbeats 2000000 in
set_option maxRecDepth 100000 in
theorem plain_sign (r : Nat) (hr : r = 35 ∨ r = 64 ∨ r = 58 ∨ r = 42 ∨ r = 44 ∨ r = 40 ∨ r = 41 ∨ r = 34 ∨ r = 92 ∨ r = 59) (w : World) :
    Calls Tryz.prog 90 #[.int .i64 r] w fun e w' => e = .returned (.bool false) ∧ w = w' := by
  have i0 := sign0
  have i1 := sign1
  have i2 := sign2
  have i3 := sign3
  have i4 := sign4
  have i5 := sign5
  have i6 := sign6
  have i7 := sign7
  have i8 := sign8
  have i9 := sign9
  rcases hr with rfl | rfl | rfl | rfl | rfl | rfl | rfl | rfl | rfl | rfl
  all_goals
    go_enter Tryz.func90, Tryz.ntmps90
    go_wp2
    go_rounds 11
    go_ret
    exact ⟨rfl, rfl⟩

set_option maxHeartbeats 2000000 in
set_option maxRecDepth 100000 in
theorem plain_other (r : Nat) (hr : ¬ (r = 35 ∨ r = 64 ∨ r = 58 ∨ r = 42 ∨ r = 44 ∨ r = 40 ∨ r = 41 ∨ r = 34 ∨ r = 92 ∨ r = 59)) (hm : r ≤ 1114111) (w : World) :
    Calls Tryz.prog 90 #[.int .i64 r] w fun e w' => e = .returned (.bool (Gly.plainB r)) ∧ w = w' := by
  have b0 : ((r : Int) == 35) = false := by simp; omega
  have b1 : ((r : Int) == 64) = false := by simp; omega
  have b2 : ((r : Int) == 58) = false := by simp; omega
  have b3 : ((r : Int) == 42) = false := by simp; omega
  have b4 : ((r : Int) == 44) = false := by simp; omega
  have b5 : ((r : Int) == 40) = false := by simp; omega
  have b6 : ((r : Int) == 41) = false := by simp; omega
  have b7 : ((r : Int) == 34) = false := by simp; omega
  have b8 : ((r : Int) == 92) = false := by simp; omega
  have b9 : ((r : Int) == 59) = false := by simp; omega
  have i0 := sign0
  have i1 := sign1
  have i2 := sign2
  have i3 := sign3
  have i4 := sign4
  have i5 := sign5
  have i6 := sign6
  have i7 := sign7
  have i8 := sign8
  have i9 := sign9
  by_cases c1 : r < 33
  · have d : Gly.plainB r = false := by simp [Gly.plainB]; omega
    rw [d]
    clear d hr
    go_enter Tryz.func90, Tryz.ntmps90
    go_wp2
    go_rounds 11
    go_ret
    exact ⟨rfl, rfl⟩
  · by_cases c2 : r < 127
    · have d : Gly.plainB r = true := by simp [Gly.plainB]; omega
      rw [d]
      clear d hr
      go_enter Tryz.func90, Tryz.ntmps90
      go_wp2
      go_rounds 11
      go_ret
      exact ⟨rfl, rfl⟩
    · by_cases c3 : 160 < r
      · have d : Gly.plainB r = true := by simp [Gly.plainB]; omega
        rw [d]
        clear d hr
        go_enter Tryz.func90, Tryz.ntmps90
        go_wp2
        go_rounds 11
        go_ret
        exact ⟨by simp; omega, rfl⟩
      · have d : Gly.plainB r = false := by simp [Gly.plainB]; omega
        rw [d]
        clear d hr
        go_enter Tryz.func90, Tryz.ntmps90
        go_wp2
        go_rounds 11
        go_ret
        exact ⟨by simp; omega, rfl⟩

theorem plain_any (r : Nat) (hm : r ≤ 1114111) (w : World) :
    Calls Tryz.prog 90 #[.int .i64 r] w fun e w' => e = .returned (.bool (Gly.plainB r)) ∧ w = w' := by
  by_cases h : r = 35 ∨ r = 64 ∨ r = 58 ∨ r = 42 ∨ r = 44 ∨ r = 40 ∨ r = 41 ∨ r = 34 ∨ r = 92 ∨ r = 59
  · rw [show Gly.plainB r = false by simp [Gly.plainB]; omega]
    exact plain_sign r h w
  · exact plain_other r h hm w

end Ref
end Go.Proofs.YtopncohhagebbaaGreatDoor

namespace Go.Proofs.YtopncohhagebbaaGreatDoor
open Go.RowKit
namespace Ref

theorem owned_any {w : World} {B : Nat} {e : TypeId} {v : Value} {n : Nat} {xs : List Value} (h : w.ownsRow B e 1 v n xs) : ∃ ao cap, v = .slice ao n cap := by
  rcases h.2 with ⟨hv, h0⟩ | ⟨g, cap, cur, hv, _⟩
  · exact ⟨none, 0, by rw [hv, h0]⟩
  · exact ⟨_, _, hv⟩
theorem owned_some {w : World} {B : Nat} {e : TypeId} {v : Value} {n : Nat} {xs : List Value} (h : w.ownsRow B e 1 v n xs) (hn : 1 ≤ n) : ∃ g cap, v = .slice (some ⟨g, 0, none⟩) n cap := by
  rcases h.2 with ⟨hv, h0⟩ | ⟨g, cap, cur, hv, _⟩
  · omega
  · exact ⟨g, cap, hv⟩

theorem runes_max : ∀ (k : Nat) (l : List UInt8), l.length ≤ k → ∀ t, Gly.runes l = some t → ∀ r ∈ t, r ≤ 1114111
  | k, l, hk, t, ht, r, hr => by
    by_cases h : l = []
    · subst h; rw [Gly.runes_nil] at ht; cases ht; simp at hr
    · have hl := Gly.drop_lt h
      obtain ⟨k, rfl⟩ : ∃ j, k = j + 1 := ⟨k - 1, by omega⟩
      cases hb : Gly.bad l with
      | true => rw [Gly.runes_bad h hb] at ht; cases ht
      | false =>
        rw [Gly.runes_step h hb] at ht
        cases hu : Gly.runes (l.drop (Gly.dec l).2) with
        | none => rw [hu] at ht; cases ht
        | some u =>
          rw [hu] at ht; cases ht
          rcases List.mem_cons.1 hr with rfl | hr
          · exact Gly.dec_max l h
          · exact runes_max k _ (by omega) u hu r hr

set_option maxHeartbeats 2000000 in
set_option maxRecDepth 100000 in
theorem id_any (s : ByteArray) (w : World) (hs : s.size ≤ 4000000) :
    Calls Tryz.prog 56 #[.string s] w fun e w' => e = .returned (.bool (Gly.idB s.data.toList)) ∧ Below w.heap.size w w' := by
  have hb := Gly.idB_runes s.data.toList
  have hu := fun w => runes_any s w hs
  cases hr : Gly.runes s.data.toList with
  | none =>
    rw [hr] at hb hu
    have HB := Lib.hid hb
    have HU := Lib.hid hu
    clear hb hu hr
    go_enter Tryz.func56, Tryz.ntmps56
    go_wp2_with (go_at_call 89; refine (HU.out _).mono ?_; rintro e w1 ⟨rfl, b1⟩)
    go_ret
    exact ⟨by rw [HB.out]; rfl, b1⟩
  | some t =>
    have hmx := runes_max _ _ (Nat.le_refl _) t hr
    have htl := Gly.runes_len _ _ (Nat.le_refl _) t hr
    rw [← Lib.size_eq] at htl
    rw [hr] at hb hu
    have HU := Lib.hid hu
    have HM := Lib.hid hmx
    clear hu hr hmx
    by_cases h0 : 1 ≤ t.length ∧ t.length ≤ 24
    · simp only [decide_eq_true h0, Bool.true_and] at hb
      have HB := Lib.hid hb
      obtain ⟨g1, g2⟩ := h0
      clear hb
      go_enter Tryz.func56, Tryz.ntmps56
      go_wp2_with (go_at_call 89; refine (HU.out _).mono ?_; rintro e w1 ⟨v, rfl, hown, b1⟩; obtain ⟨g, cap, rfl⟩ := owned_some hown g1)
      go_wp2_with fail
      go_loop [25] (fun i => ∃ (k : Nat), i = .int .i64 k ∧ k ≤ t.length ∧ Hid ((t.drop k).all Gly.plainB = t.all Gly.plainB)) (fun i => t.length - (intOf i).toNat)
      case atStart => exact ⟨0, rfl, by omega, rfl⟩
      case round =>
        obtain ⟨k, rfl, hk, HS⟩ := hrel
        by_cases hlt : k < t.length
        · have hd : t.drop k = t[k] :: t.drop (k + 1) := List.drop_eq_getElem_cons hlt
          have hall := HS.out
          rw [hd, List.all_cons] at hall
          have hcell := hown.cellAt k (by rw [Nat.mul_one]; exact hlt)
          rw [show (nums t)[k]? = some (.int .i64 (t[k] : Int)) by simp [nums, hlt]] at hcell
          have hmk := HM.out _ (List.getElem_mem hlt)
          have hpl := fun W => plain_any t[k] hmk W
          generalize t[k] = r at *
          clear hd
          cases hp : Gly.plainB r with
          | true =>
            rw [hp] at hall hpl
            have HA := Lib.hid hall
            have HP := Lib.hid hpl
            clear hall hpl hp
            go_wp2_with (go_at_call 90; refine (HP.out _).mono ?_; rintro e w2 ⟨rfl, rfl⟩)
            go_round
            case rel => exact ⟨k + 1, by go_num, by omega, Lib.hid (by rw [← HA.out]; simp)⟩
            case measure => simp [intOf]; omega
          | false =>
            rw [hp] at hall hpl
            have HA := Lib.hid hall
            have HP := Lib.hid hpl
            clear hall hpl hp
            go_wp2_with (go_at_call 90; refine (HP.out _).mono ?_; rintro e w2 ⟨rfl, rfl⟩)
            go_ret
            exact ⟨by rw [HB.out, ← HA.out]; rfl, b1⟩
        · have hall := HS.out
          rw [List.drop_of_length_le (by omega)] at hall
          have HA := Lib.hid hall
          clear hall
          go_wp2
          go_ret
          exact ⟨by rw [HB.out, ← HA.out]; rfl, b1⟩
    · simp only [decide_eq_false h0, Bool.false_and] at hb
      have HB := Lib.hid hb
      clear hb
      rcases (show t.length < 1 ∨ 24 < t.length by omega) with h1 | h1
      all_goals
        clear h0
        go_enter Tryz.func56, Tryz.ntmps56
        go_wp2_with (go_at_call 89; refine (HU.out _).mono ?_; rintro e w1 ⟨v, rfl, hown, b1⟩; obtain ⟨ao, cap, rfl⟩ := owned_any hown)
        go_ret
        exact ⟨by rw [HB.out]; rfl, b1⟩
end Ref
end Go.Proofs.YtopncohhagebbaaGreatDoor
