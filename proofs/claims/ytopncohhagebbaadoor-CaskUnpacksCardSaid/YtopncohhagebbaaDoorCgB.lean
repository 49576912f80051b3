/-
  Layer 10 (cask): numbers, texts and marks taken of any bytes: package knot's own, at whatever stands there.
  Layer 10 (cask): package knot's Number, Text, Mark and End, at whatever stands there.
  Layer 10 (cask): a taking, as a function of the program: what it answers lies in new memory; of the older it turns the untying alone.
-/
import Derived.Test.YtopncohhagebbaaDoorKgI
import Derived.Test.YtopncohhagebbaaDoorCgA
import Derived.Test.YtopncohhagebbaaDoorMgRd
import Derived.Deep.DeepCutAuto
namespace Go.Proofs.YtopncohhagebbaaDoor
open Go.RowKit Go.Sort
namespace Ck
open Knot (takeN takeT takeM value Inn At iptr Turns fail_any front_empty)
open Who (bs bs_list bs_size bs_self eq_of_list)

theorem byte_num {s : ByteArray} {p : Nat} (hp : p < s.data.toList.length) : s.data.toList[p] = s[p]'(by rw [Lib.size_eq]; exact hp) := by
  simp
  rfl
theorem high_rune {s : ByteArray} {p : Nat} (hp : p < s.data.toList.length) (h : 128 ≤ (s.data.toList[p]).toNat) : 128 ≤ (Utf8.decode s p).1 := by
  rw [Gly.dec_at]
  have hne : s.data.toList.drop p ≠ [] := fun e => by
    have := congrArg List.length e
    rw [List.length_drop, List.length_nil] at this
    omega
  refine Gly.dec_high hne ?_
  rw [Gly.byte, List.getD_eq_getElem?_getD, List.getElem?_drop, Nat.add_zero, List.getElem?_eq_getElem hp]
  exact h
/-- What the rune at a place says: a digit's byte, an end's, or another's. -/
theorem next_at (s : ByteArray) (w : World) (b p : Nat) (hit : w.heap[b]? = some (.stringIter s p)) (hp : p < s.data.toList.length) :
    ∃ (r : Nat) (q : Nat), p < q ∧ (∀ ty, (Instr.next (.pointer (some ⟨b, 0, none⟩)) true ty).run Tryd.prog w = .ok (.tuple #[.bool true, .int .i64 p, .int .i32 r]) (w.iterAt b s q)) ∧ ((s.data.toList[p]).toNat < 128 → r = (s.data.toList[p]).toNat ∧ q = p + 1) ∧ (128 ≤ (s.data.toList[p]).toNat → 128 ≤ r) ∧ q ≤ s.size ∧ r ≤ 1114111 := by
  have hps : p < s.size := by rw [Lib.size_eq]; exact hp
  have hne : s.data.toList.drop p ≠ [] := fun e => by
    have := congrArg List.length e
    rw [List.length_drop, List.length_nil] at this
    omega
  have hw := Gly.dec_width _ hne
  have hmx := Gly.dec_max _ hne
  rw [← Gly.dec_at] at hw hmx
  refine ⟨(Utf8.decode s p).1, p + (Utf8.decode s p).2, by omega, fun ty => Lib.run_next_any_at w b s p ty hit hps, fun h => ?_, fun h => high_rune hp h, ?_, hmx⟩
  · have e : Utf8.decode s p = ((s.data.toList[p]).toNat, 1) := by
      rw [Gly.dec_at]
      have hb : Gly.byte (s.data.toList.drop p) 0 = (s.data.toList[p]).toNat := by
        rw [Gly.byte, List.getD_eq_getElem?_getD, List.getElem?_drop, Nat.add_zero, List.getElem?_eq_getElem hp]
        rfl
      rw [Gly.dec_low hne (by rw [hb]; exact h), hb]
    rw [e]
    exact ⟨rfl, rfl⟩
  · have h1 := hw.2.1
    rw [List.length_drop, ← Lib.size_eq] at h1
    omega

set_option maxHeartbeats 4000000 in
set_option maxRecDepth 100000 in
/-- The number at the front of any text. -/
theorem number_all (s : ByteArray) (w : World) (hz : s.size ≤ 1000000000000) :
    Calls Tryd.prog 38 #[.string s] w fun e w' => e = .returned (.tuple #[.int .i64 (numS s.data.toList 9223372036854775807).1, .int .i64 (numS s.data.toList 9223372036854775807).2]) ∧ Below w.heap.size w w' := by
  have hzl : s.data.toList.length ≤ 1000000000000 := by rw [← Lib.size_eq]; exact hz
  obtain ⟨l, hl⟩ : ∃ l, l = s.data.toList := ⟨_, rfl⟩
  have HL := Lib.hid hl
  rw [← hl] at hzl ⊢
  have hsz : s.size = l.length := by rw [hl, Lib.size_eq]
  clear hl hz
  go_enter Tryd.func38, Tryd.ntmps38
  go_wp2
  go_loopw [2] (fun v wr => ∃ (pos : Nat), v = .int .i64 (value 0 (l.take pos) : Nat) ∧ wr.heap[w.heap.size]? = some (.stringIter s pos) ∧ Below w.heap.size w wr ∧ Hid (Pre l pos ∧ (1 < pos → l.head? ≠ some 48))) (fun _ wr => s.size - wr.iterPos w.heap.size)
  case atStart => exact ⟨0, by simp [Knot.value_nil], World.iter_heap w s 0, (Below.refl _ _).alloc (Nat.le_refl _) _, Lib.hid ⟨pre_zero l, by omega⟩⟩
  case round =>
    obtain ⟨pos, rfl, hit, hbw, HP⟩ := hrel
    have hpos0 := iterPos_of hit
    by_cases hp : pos < l.length
    · obtain ⟨r, q, hq, hnx, hlo, hhi, hqs, hr⟩ := next_at s wr w.heap.size pos hit (by rw [← HL.out]; exact hp)
      simp only [← HL.out] at hlo hhi
      have hit2 := Lib.iterAt_heap wr w.heap.size s pos q hit
      have hbw2 := Lib.below_iterAt hbw (k := w.heap.size) (Nat.le_refl _) s q
      obtain ⟨W1, hW1⟩ : ∃ W1, W1 = wr.iterAt w.heap.size s q := ⟨_, rfl⟩
      rw [← hW1] at hnx hit2 hbw2
      have hv : value 0 (l.take pos) < 10 ^ 17 := by
        have h3 := Knot.pre_lt (l := l.take pos) HP.out.1.2.2 (l.take pos).length (Nat.le_refl _)
        rw [List.take_length] at h3
        have h2 := HP.out.1.2.1
        exact Nat.lt_of_lt_of_le h3 (Nat.pow_le_pow_right (by decide) (by rw [List.length_take]; omega))
      have HB2 := Lib.hid hbw2
      have hp17 := HP.out.1.2.1
      clear hW1 hit hbw hbw2
      by_cases h59 : l[pos] = 59
      · obtain ⟨rfl, rfl⟩ := hlo (by rw [h59]; decide)
        have hr59 : ((l[pos]).toNat : Int) = 59 := by rw [h59]; rfl
        by_cases h0 : pos = 0
        · have HE := Lib.hid (scan_stop_bad (most := 9223372036854775807) HP.out.1 hp h59 (.inl h0))
          subst h0
          rw [hr59] at hnx
          clear h59 hr59 hlo hhi HP
          go_wp2
          go_ret2
          exact ⟨by rw [HE.out]; rfl, HB2.out⟩
        · have HE := Lib.hid (scan_stop (most := 9223372036854775807) HP.out.1 hp h59 (by omega) (by omega) HP.out.2)
          rw [hr59] at hnx
          generalize value 0 (l.take pos) = v at *
          clear h59 hr59 hlo hhi HP
          go_wp2
          go_ret2
          exact ⟨by rw [HE.out]; congr 1, HB2.out⟩
      · have hr59 : r ≠ 59 := fun e => by
          by_cases h128 : (l[pos]).toNat < 128
          · have h1 := (hlo h128).1
            exact h59 (UInt8.toNat_inj.1 (by rw [← h1, e]; rfl))
          · have := hhi (by omega)
            omega
        have e59 : ((r : Int) == 59) = false := by simp; omega
        by_cases hd : 48 ≤ (l[pos]).toNat ∧ (l[pos]).toNat ≤ 57
        · obtain ⟨rfl, rfl⟩ := hlo (by omega)
          by_cases h0 : 1 ≤ pos ∧ value 0 (l.take pos) = 0
          · have HE := Lib.hid (scan_nought (most := 9223372036854775807) HP.out.1 hp h59 h0.1 h0.2)
            have h1 := h0.1
            rw [h0.2]
            have e0 : ((pos : Int) == 17) = false ∨ ((pos : Int) == 17) = true := by cases ((pos : Int) == 17) <;> simp
            clear hlo hhi HP h59 hr59 h0 hv
            generalize (l[pos]).toNat = t at *
            rcases e0 with e0 | e0
            all_goals
              go_wp2
              go_ret2
              exact ⟨by rw [HE.out]; rfl, HB2.out⟩
          · by_cases h17 : pos = 17
            · have HE := Lib.hid (scan_long (most := 9223372036854775807) HP.out.1 hp h59 h17)
              have hv0 : ((value 0 (l.take pos) : Nat) : Int) ≠ 0 := by omega
              have ev : (((value 0 (l.take pos) : Nat) : Int) == 0) = false := by simp; omega
              generalize value 0 (l.take pos) = v at *
              generalize (l[pos]).toNat = t at *
              subst h17
              clear hlo hhi HP h59 hr59 h0 hv0
              go_wp2
              go_ret2
              exact ⟨by rw [HE.out]; rfl, HB2.out⟩
            · obtain ⟨hpre, hst, hlt⟩ := scan_step HP.out.1 hp hd h17
              have hh : 1 < pos + 1 → l.head? ≠ some 48 := fun hgt hc => by
                by_cases h1 : pos = 1
                · refine h0 ⟨by omega, ?_⟩
                  subst h1
                  match l, hc, hp with
                  | a :: m, hc, _ =>
                    obtain rfl : a = 48 := by simpa using hc
                    rfl
                · exact HP.out.2 (by omega) hc
              have HN := Lib.hid (And.intro hpre hh)
              have HS := Lib.hid hst
              have e17 : ((pos : Int) == 17) = false := by simp; omega
              have hv2 : value 0 (l.take pos) < 10000000000000000 := hlt
              by_cases hz : pos = 0
              · have hv0 : value 0 (l.take pos) = 0 := by rw [hz]; rfl
                have ep : ¬ ((0 : Int) < (pos : Int)) := by omega
                rw [hv0] at HS ⊢
                clear hlo hhi HP h59 hr59 h0 hpre hst hlt hh hv hv2 hv0
                generalize (l[pos]).toNat = t at *
                subst hz
                go_wp2
                go_roundw
                case rel => exact ⟨0 + 1, by rw [HS.out]; congr 1; omega, hit2, HB2.out, HN⟩
                case measure => rw [iterPos_of hit2, hpos0]; omega
              · have hv0 : value 0 (l.take pos) ≠ 0 := fun e => h0 ⟨by omega, e⟩
                have ev : (((value 0 (l.take pos) : Nat) : Int) == 0) = false := by simp; omega
                clear hlo hhi HP h59 hr59 h0 hpre hst hlt hh hv
                generalize value 0 (l.take pos) = v at *
                generalize (l[pos]).toNat = t at *
                go_wp2
                go_roundw
                case rel => exact ⟨pos + 1, by rw [HS.out]; congr 1; omega, hit2, HB2.out, HN⟩
                case measure => rw [iterPos_of hit2, hpos0]; omega
        · have HE := Lib.hid (scan_byte (most := 9223372036854775807) HP.out.1 hp (by omega) (.inl h59))
          have hrr : r < 48 ∨ 57 < r := by
            by_cases h128 : (l[pos]).toNat < 128
            · have h1 := (hlo h128).1
              omega
            · have := hhi (by omega)
              omega
          generalize value 0 (l.take pos) = v at *
          clear hlo hhi HP h59 hd hr59
          have e0 : ((v : Int) == 0) = false ∨ ((v : Int) == 0) = true := by cases ((v : Int) == 0) <;> simp
          rcases hrr with hrr | hrr
          all_goals
            rcases e0 with e0 | e0
            all_goals
              by_cases hz : pos = 0
              all_goals
                first
                  | subst hz
                  | have ep : (0 : Int) < (pos : Int) := by omega
                go_wp2
                go_ret2
                exact ⟨by rw [HE.out]; rfl, HB2.out⟩
    · have hle : pos = l.length := by have := HP.out.1.1; omega
      have HE := Lib.hid (scan_end (most := 9223372036854775807) (l := l) (by have := HP.out.1; rwa [hle] at this))
      have hnx : ∀ ty, (Instr.next (.pointer (some ⟨w.heap.size, 0, none⟩)) true ty).run Tryd.prog wr = _ := fun ty => Lib.run_next_end_at wr w.heap.size s pos ty hit (by omega)
      clear HP
      go_wp2
      go_ret2
      exact ⟨by rw [HE.out]; rfl, hbw⟩
end Ck
end Go.Proofs.YtopncohhagebbaaDoor

namespace Go.Proofs.YtopncohhagebbaaDoor
open Go.RowKit Go.Sort
namespace Ck
open Knot (takeN takeT takeM value Inn At iptr Turns fail_any front_empty front_byte byte_of)
open Who (bs bs_list bs_size bs_self eq_of_list)

theorem takeN_len {l r : List UInt8} {most : Int} {n : Nat} (h : takeN l most = some (n, r)) : ∃ k, 1 ≤ k ∧ k + r.length = l.length ∧ l.drop k = r ∧ numS l most = (n, k) := by
  have h1 := (takeN_of h).1
  have h2 := number_pos n
  have hlen : l.length = (Knot.number n).length + r.length := by rw [h1, List.length_append]
  refine ⟨l.length - r.length, by omega, by omega, ?_, by rw [numS, h]⟩
  have e : l.length - r.length = (Knot.number n).length := by omega
  rw [e, h1]
  exact List.drop_left
/-- What Number comes to: it fails, or goes. -/
theorem num_cases (most : Int) (s : St) : (((numS s.1 9223372036854775807).2 = 0 ∨ most < ((numS s.1 9223372036854775807).1 : Int)) ∧ numP most s = (0, bad)) ∨
    (∃ n k r, numS s.1 9223372036854775807 = (n, k) ∧ 1 ≤ k ∧ k + r.length = s.1.length ∧ (n : Int) ≤ most ∧ s.1.drop k = r ∧ numP most s = (n, (r, s.2)) ∧ n < 10 ^ 17) := by
  have ht := numS_top s.1 most
  cases hm : takeN s.1 most with
  | none =>
    left
    refine ⟨?_, by rw [numP, hm]⟩
    by_cases h : (numS s.1 9223372036854775807).2 = 0 ∨ most < ((numS s.1 9223372036854775807).1 : Int)
    · exact h
    · exfalso
      rw [if_neg h] at ht
      have h0 : numS s.1 most = (0, 0) := by rw [numS, hm]
      rw [h0] at ht
      exact h (.inl (by rw [← ht]))
  | some p =>
    obtain ⟨n, r⟩ := p
    right
    obtain ⟨k, h1, h2, h3, h4⟩ := takeN_len hm
    obtain ⟨-, h5, h6⟩ := takeN_of hm
    refine ⟨n, k, r, ?_, h1, h2, h5, h3, by rw [numP, hm], h6⟩
    by_cases h : (numS s.1 9223372036854775807).2 = 0 ∨ most < ((numS s.1 9223372036854775807).1 : Int)
    · rw [if_pos h, h4] at ht
      have := (Prod.mk.inj ht).2
      omega
    · rw [if_neg h, h4] at ht
      exact ht.symm

/-- What a taking answers: a value, and what is left. -/
def Took (I : Nat) (w : World) (v : Value) (s : St) (e : Ending) (x : World) : Prop := e = .returned v ∧ Inn x I (bs s.1) s.2 ∧ Turns (At I) w x

set_option maxHeartbeats 2000000 in
set_option maxRecDepth 100000 in
theorem number_p (I : Nat) (s : St) (most : Int) (w : World) (h : Inn w I (bs s.1) s.2) (hz : s.1.length ≤ 1000000000000) :
    Calls Tryd.prog 23 #[iptr I, .int .i64 most] w (Took I w (.int .i64 (numP most s).1) (numP most s).2) := by
  obtain ⟨⟨c0, f0⟩, -⟩ := h.cells
  have hz2 : (bs s.1).size ≤ 1000000000000 := by rw [bs_size]; exact hz
  have hn := fun W => number_all (bs s.1) W hz2
  rw [bs_list] at hn
  have H := Lib.hid h
  rcases num_cases most s with ⟨hb, e⟩ | ⟨n, k, r, e1, h1, h2, h3, h4, e, -⟩
  · rw [e]
    have HF := Lib.hid (fun W => fail_any I (bs s.1) s.2 W)
    generalize numS s.1 9223372036854775807 = q at *
    obtain ⟨n, k⟩ := q
    have HN := Lib.hid hn
    clear h hn hz hz2 e
    generalize bs s.1 = t at *
    by_cases hk : k = 0
    · have ek : ((k : Int) == 0) = true := by simp; omega
      clear hb hk
      simp only at HN
      go_enter Tryd.func23, Tryd.ntmps23
      go_wp2_with fail
      refine (HN.out _).mono ?_
      rintro e w1 ⟨rfl, b1⟩
      have h1 := H.out.below b1
      clear c0 f0
      go_wp2_with fail
      refine (HF.out _ h1).mono ?_
      rintro e w2 ⟨rfl, h2, t2⟩
      go_wp2
      go_ret
      exact ⟨rfl, h2, t2.after_below b1⟩
    · have ek : ((k : Int) == 0) = false := by simp; omega
      have hm : most < (n : Int) := hb.resolve_left hk
      clear hb hk
      simp only at HN
      go_enter Tryd.func23, Tryd.ntmps23
      go_wp2_with fail
      refine (HN.out _).mono ?_
      rintro e w1 ⟨rfl, b1⟩
      have h1 := H.out.below b1
      clear c0 f0
      go_wp2_with fail
      refine (HF.out _ h1).mono ?_
      rintro e w2 ⟨rfl, h2, t2⟩
      go_wp2
      go_ret
      exact ⟨rfl, h2, t2.after_below b1⟩
  · rw [e]
    rw [e1] at hn
    have hsl : ∀ W, (Instr.slice 9 (.string (bs s.1)) (some (.int .i64 (k : Int))) none none).run Tryd.prog W = .ok (.string (bs r)) W := fun W => by
      rw [run_slice_string_from_if _ 9 (bs s.1) .i64 (k : Int) Tryd.underlying9, if_pos (by rw [bs_size]; omega), Int.toNat_natCast]
      have e : (bs s.1).extract k (bs s.1).size = bs r := by
        apply eq_of_list
        rw [bs_list, Gl.extract_list, bs_list, h4]
      rw [e]
    have hz : ((k : Int) == 0) = false := by simp; omega
    have hnm : ¬ most < (n : Int) := by omega
    have HN := Lib.hid hn
    clear h hn e e1 h1 h2 h3 h4 hz2
    generalize bs s.1 = t at *
    simp only at HN
    go_enter Tryd.func23, Tryd.ntmps23
    go_wp2_with fail
    refine (HN.out _).mono ?_
    rintro e w1 ⟨rfl, b1⟩
    have h1 := H.out.below b1
    have K1 := Lib.hid h1
    obtain ⟨⟨c2, f2⟩, -⟩ := h1.cells
    clear c0 f0 h1
    go_wp2
    go_ret
    exact ⟨rfl, K1.out.put0 _, (Turns.of_below b1).setCell (by rfl) _⟩

/-- What Text comes to. -/
theorem text_cases (most : Int) (s : St) : textP most s = if (numP most s).2.1[(numP most s).1]? = some 44 then (bs ((numP most s).2.1.take (numP most s).1), ((numP most s).2.1.drop ((numP most s).1 + 1), (numP most s).2.2)) else (Tr.none0, bad) := by
  cases hm : takeN s.1 most with
  | none =>
    rw [textP, takeT, hm, show numP most s = (0, bad) by rw [numP, hm]]
    rfl
  | some p =>
    obtain ⟨n, r⟩ := p
    rw [textP, takeT, hm, show numP most s = (n, (r, s.2)) by rw [numP, hm]]
    dsimp only
    by_cases h44 : r[n]? = some 44
    · rw [if_pos h44, if_pos h44]
    · rw [if_neg h44, if_neg h44]

set_option maxHeartbeats 4000000 in
set_option maxRecDepth 100000 in
theorem text_p (I : Nat) (s : St) (most : Int) (w : World) (h : Inn w I (bs s.1) s.2) (hz : s.1.length ≤ 1000000000000) (hm : 0 ≤ most ∧ most ≤ 4000000) :
    Calls Tryd.prog 40 #[iptr I, .int .i64 most] w (Took I w (.string (textP most s).1) (textP most s).2) := by
  have HN := Lib.hid (number_p I s most w h hz)
  have hlen : (numP most s).2.1.length ≤ 1000000000000 ∧ ((numP most s).1 : Int) ≤ most := by
    rcases num_cases most s with ⟨-, e⟩ | ⟨n, k, r, e1, h1, h2, h3, h4, e, -⟩
    · rw [e]; exact ⟨by simp [bad], by simpa using hm.1⟩
    · rw [e]; exact ⟨by simp only; omega, h3⟩
  have HT := Lib.hid (text_cases most s)
  clear h hz
  generalize numP most s = q at *
  obtain ⟨n, r, f⟩ := q
  simp only at HN HT hlen
  have HC := Lib.hid (fun t (ht : t.size ≤ 4000000) W => Who.clone_any t W ht)
  have hrs : (bs r).size = r.length := bs_size r
  have HF := Lib.hid (fun W => fail_any I (bs r) f W)
  by_cases hn : n < r.length
  · have hcmp : ¬ ((r.length : Int) ≤ (n : Int)) := by omega
    have hix : ∀ W, (Instr.index 9 (.string (bs r)) (.int .i64 (n : Int))).run Tryd.prog W = .ok (.int .u8 (r[n].toNat : Int)) W := fun W => by
      obtain ⟨hk, hbb⟩ := byte_of (s := bs r) (k := n) (b := r[n]) (by rw [bs_list]; exact List.getElem?_eq_getElem hn)
      rw [run_index_string W 9 (bs r) .i64 _ Tryd.underlying9, dif_pos ⟨by omega, by omega⟩]
      have e : ((n : Int)).toNat = n := by omega
      simp only [e]
      rw [hbb]
    have hat : r[n]? = some r[n] := List.getElem?_eq_getElem hn
    by_cases h44 : r[n] = 44
    · have e1 : (bs r).extract 0 n = bs (r.take n) := by
        apply eq_of_list
        simp only [Who.bs_cut, bs_list, List.drop_zero, Nat.sub_zero]
      have e2 : (bs r).extract (n + 1) (bs r).size = bs (r.drop (n + 1)) := by
        apply eq_of_list
        rw [Gl.extract_list, bs_list, bs_list]
      have hs1 : ∀ W, (Instr.slice 9 (.string (bs r)) none (some (.int .i64 (n : Int))) none).run Tryd.prog W = .ok (.string (bs (r.take n))) W := fun W => by
        rw [run_slice_string_to_if _ 9 (bs r) .i64 (n : Int) Tryd.underlying9, if_pos (by omega), Int.toNat_natCast, e1]
      have hs3 : ∀ W, (Instr.slice 9 (.string (bs r)) (some (.int .i64 ((n : Int) + 1))) none none).run Tryd.prog W = .ok (.string (bs (r.drop (n + 1)))) W := fun W => by
        rw [run_slice_string_from_if _ 9 (bs r) .i64 ((n : Int) + 1) Tryd.underlying9, if_pos (by omega), show ((n : Int) + 1).toNat = n + 1 by omega, e2]
      rw [if_pos (by rw [hat, h44])] at HT
      rw [h44, show (((44 : UInt8)).toNat : Int) = 44 from rfl] at hix
      have HC2 := Lib.hid (HC.out (bs (r.take n)) (by rw [bs_size, List.length_take]; omega))
      clear hat h44 e1 e2 HC HF
      rw [HT.out]
      clear HT
      generalize bs (r.take n) = t at *
      generalize hu : bs r = u at *
      go_enter Tryd.func40, Tryd.ntmps40
      go_wp2_with fail
      refine HN.out.mono ?_
      rintro e w1 ⟨rfl, h1, t1⟩
      rw [hu] at h1
      obtain ⟨⟨c0, f0⟩, -⟩ := h1.cells
      have H1 := Lib.hid h1
      clear h1 HN
      go_wp2_with fail
      refine (HC2.out _).mono ?_
      rintro e w2 ⟨rfl, b2⟩
      have h2 := H1.out.below b2
      clear c0 f0
      obtain ⟨⟨c0, f0⟩, -⟩ := h2.cells
      have H2 := Lib.hid h2
      clear h2
      go_wp2
      go_ret
      exact ⟨rfl, H2.out.put0 _, (t1.then_below b2).setCell (by rfl) _⟩
    · have hne : ((r[n].toNat : Int) != 44) = true := by
        rw [bne_iff_ne]
        intro e
        exact h44 (UInt8.toNat_inj.1 (by rw [show (44 : UInt8).toNat = 44 from rfl]; omega))
      have e0 : textP most s = (Tr.none0, bad) := by
        rw [HT.out, if_neg (by rw [hat]; exact fun e => h44 (Option.some.inj e))]
      rw [e0]
      clear HT e0 hat h44 HC
      generalize r[n].toNat = z at *
      generalize hu : bs r = u at *
      go_enter Tryd.func40, Tryd.ntmps40
      go_wp2_with fail
      refine HN.out.mono ?_
      rintro e w1 ⟨rfl, h1, t1⟩
      rw [hu] at h1
      obtain ⟨⟨c0, f0⟩, -⟩ := h1.cells
      have H1 := Lib.hid h1
      clear h1 HN
      go_wp2_with fail
      refine (HF.out _ H1.out).mono ?_
      rintro e w2 ⟨rfl, h2, t2⟩
      go_wp2
      go_ret
      exact ⟨rfl, h2, t1.trans t2 fun _ _ h => h⟩
  · have hcmp : (r.length : Int) ≤ (n : Int) := by omega
    have e0 : textP most s = (Tr.none0, bad) := by
      rw [HT.out, if_neg (by rw [List.getElem?_eq_none (by omega)]; exact fun e => by cases e)]
    rw [e0]
    clear HT e0 HC
    generalize hu : bs r = u at *
    go_enter Tryd.func40, Tryd.ntmps40
    go_wp2_with fail
    refine HN.out.mono ?_
    rintro e w1 ⟨rfl, h1, t1⟩
    rw [hu] at h1
    obtain ⟨⟨c0, f0⟩, -⟩ := h1.cells
    have H1 := Lib.hid h1
    clear h1 HN
    go_wp2_with fail
    refine (HF.out _ H1.out).mono ?_
    rintro e w2 ⟨rfl, h2, t2⟩
    go_wp2
    go_ret
    exact ⟨rfl, h2, t1.trans t2 fun _ _ h => h⟩

/-! ### marks -/
set_option maxHeartbeats 1000000 in
set_option maxRecDepth 100000 in
theorem front_all (s : ByteArray) (c : UInt8) (x : List UInt8) (w : World) (hs : s.data.toList = c :: x) :
    Calls Tryd.prog 65 #[.string s] w fun e w' => (∃ r : Nat, e = .returned (.int .i32 r) ∧ ((c = 43 ∨ c = 45) → r = c.toNat) ∧ (¬ (c = 43 ∨ c = 45) → r ≠ 43 ∧ r ≠ 45)) ∧ Below w.heap.size w w' := by
  have hp : 0 < s.data.toList.length := by rw [hs]; simp
  have hc : s.data.toList[0] = c := by simp only [hs]; rfl
  have HC := Lib.hid (show ∃ h : 0 < s.data.toList.length, s.data.toList[0] = c from ⟨hp, hc⟩)
  clear hs hc hp
  go_enter Tryd.func65, Tryd.ntmps65
  go_wp2
  go_loopw [] (fun wr => wr.heap[w.heap.size]? = some (.stringIter s 0) ∧ Below w.heap.size w wr) (fun wr => 0)
  case atStart => exact ⟨World.iter_heap w _ 0, (Below.refl _ _).alloc (Nat.le_refl _) _⟩
  case round =>
    obtain ⟨hit, hbw⟩ := hrel
    obtain ⟨hp, hc⟩ := HC.out
    obtain ⟨r, q, hq, hnx, hlo, hhi, hqs, hr⟩ := next_at s wr w.heap.size 0 hit hp
    rw [hc] at hlo hhi
    clear hc
    have hbw2 := Lib.below_iterAt hbw (k := w.heap.size) (Nat.le_refl _) s q
    have hrr : ((c = 43 ∨ c = 45) → r = c.toNat) ∧ (¬ (c = 43 ∨ c = 45) → r ≠ 43 ∧ r ≠ 45) := by
      by_cases h : c.toNat < 128
      · have h1 := (hlo h).1
        subst h1
        exact ⟨fun _ => rfl, fun hn => ⟨fun e => hn (.inl (UInt8.toNat_inj.1 e)), fun e => hn (.inr (UInt8.toNat_inj.1 e))⟩⟩
      · have h1 := hhi (by omega)
        refine ⟨fun h2 => ?_, fun _ => by omega⟩
        rcases h2 with rfl | rfl <;> exact absurd (by decide) h
    have HR := Lib.hid hrr
    clear hlo hhi hrr
    go_wp2
    go_ret
    exact ⟨⟨r, rfl, HR.out⟩, hbw2⟩
set_option maxHeartbeats 2000000 in
set_option maxRecDepth 100000 in
theorem mark_p (I : Nat) (s : St) (w : World) (h : Inn w I (bs s.1) s.2) :
    Calls Tryd.prog 55 #[iptr I] w (Took I w (.bool (markP s).1) (markP s).2) := by
  obtain ⟨l, f⟩ := s
  simp only at h
  match l, h with
  | [], h => exact Knot.mark_none I f w h
  | c :: x, h =>
    by_cases hc : c = 43 ∨ c = 45
    · have e : markP (c :: x, f) = (decide (c = 43), (x, f)) := by
        rcases hc with rfl | rfl <;> rfl
      rw [e]
      have hg := Knot.mark_goes I (bs (c :: x)) (decide (c = 43)) x f w h (by
        rw [bs_list]
        rcases hc with rfl | rfl <;> rfl)
      exact hg
    · have e : markP (c :: x, f) = (false, bad) := by
        apply markP_none
        unfold takeM
        split
        · rename_i he
          exact absurd (.inl (List.cons.inj he).1) hc
        · rename_i he
          exact absurd (.inr (List.cons.inj he).1) hc
        · rfl
      rw [e]
      obtain ⟨⟨c0, f0⟩, -⟩ := h.cells
      have H := Lib.hid h
      have HN := Lib.hid (fun W => front_all (bs (c :: x)) c x W (bs_list _))
      have HF := Lib.hid (fun W => fail_any I (bs (c :: x)) f W)
      have HC := Lib.hid hc
      clear h hc e
      generalize bs (c :: x) = t at *
      go_enter Tryd.func55, Tryd.ntmps55
      go_wp2_with fail
      refine (HN.out _).mono ?_
      rintro e w1 ⟨⟨r, rfl, -, hr⟩, b1⟩
      have h1 := H.out.below b1
      have hr' := hr HC.out
      have e1 : ((r : Int) != 43) = true := by rw [bne_iff_ne]; omega
      have e2 : ((r : Int) != 45) = true := by rw [bne_iff_ne]; omega
      clear c0 f0 hr hr'
      go_wp2_with fail
      refine (HF.out _ h1).mono ?_
      rintro e w2 ⟨rfl, h2, t2⟩
      go_wp2
      go_ret
      exact ⟨rfl, h2, t2.after_below b1⟩
theorem end_p (I : Nat) (s : St) (w : World) (h : Inn w I (bs s.1) s.2) :
    Calls Tryd.prog 12 #[iptr I] w fun e x => e = .returned (.int .i64 (if s.2 = true ∨ s.1 ≠ [] then 2 else 0)) ∧ x = w := by
  obtain ⟨l, f⟩ := s
  simp only at h ⊢
  match l, h with
  | [], h =>
    refine (Knot.end_any I f w h).mono ?_
    rintro e x ⟨rfl, rfl⟩
    refine ⟨?_, rfl⟩
    cases f <;> simp
  | c :: x, h =>
    obtain ⟨⟨c0, f0⟩, ⟨c1, f1⟩⟩ := h.cells
    rw [if_pos (.inr (by simp))]
    have hne : (bs (c :: x)).toList.isEmpty = false := by rw [Lib.toList_data, bs_list]; rfl
    have hne2 : ((bs (c :: x)).toList == []) = false := by rw [Lib.toList_data, bs_list]; rfl
    clear h
    generalize bs (c :: x) = t at *
    cases f
    all_goals
      go_enter Tryd.func12, Tryd.ntmps12
      go_wp2
      go_ret
      exact ⟨rfl, rfl⟩
end Ck
end Go.Proofs.YtopncohhagebbaaDoor

namespace Go.Proofs.YtopncohhagebbaaDoor
open Go.RowKit Go.Sort
namespace Ck
open Knot (Inn At iptr Turns)
open Who (bs bs_list bs_size bs_self eq_of_list)
open Gr (Elt RowS)

abbrev fnv (f : FuncId) (cap : Array Value) : Value := .func (.func f) #[] cap
/-- What a taking answers. -/
def Out {α : Type} (E : Elt α) (I : Nat) (r : α × St) (x : World) (e : Ending) (y : World) : Prop :=
  ∃ v, e = .returned v ∧ E.is (fun g => x.heap.size ≤ g) y r.1 v ∧ Inn y I (bs r.2.1) r.2.2 ∧ Turns (At I) x y
/-- A taking, whose free names lie in the world W. -/
structure Part {α : Type} (E : Elt α) (I N : Nat) (W : World) (f : FuncId) (cap : Array Value) (p : St → α × St) : Prop where
  enter : ∀ args x, (callFunc f args).run Tryd.prog x = .ok (.enter f args) x
  run : ∀ s x, Inn x I (bs s.1) s.2 → s.1.length ≤ N → Turns (At I) W x → Calls Tryd.prog f (#[iptr I] ++ cap) x (Out E I (p s) x)
  short : Short p
/-- What a taking of a list answers. -/
def Outs {α : Type} (E : Elt α) (T : TypeId) (I : Nat) (r : List α × St) (x : World) (e : Ending) (y : World) : Prop :=
  ∃ v, e = .returned v ∧ RowS E y x.heap.size T v r.1 ∧ Inn y I (bs r.2.1) r.2.2 ∧ Turns (At I) x y
/-- What the loop keeps. -/
structure Lo {α : Type} (E : Elt α) (T : TypeId) (I N : Nat) (p : St → α × St) (R : List α × St) (w : World) (v : Value) (k : Nat) (l : List α) (s : St) (x : World) : Prop where
  row : RowS E x w.heap.size T v l
  inn : Inn x I (bs s.1) s.2
  turns : Turns (At I) w x
  more : loopP p k s l = R
  len : l.length + s.1.length ≤ N
theorem at_trans {I : Nat} {x y z : World} (h : Turns (At I) x y) (k : Turns (At I) y z) : Turns (At I) x z := h.trans k fun _ _ h => h
theorem loopP_on {α : Type} {p : St → α × St} {k : Nat} {s : St} {l : List α} (h : s.1 ≠ []) : loopP p (k + 1) s l = loopP p k (p s).2 (l ++ [(p s).1]) := by rw [loopP, if_neg h]
theorem loopP_off {α : Type} {p : St → α × St} {k : Nat} {s : St} {l : List α} (h : s.1 = []) : loopP p (k + 1) s l = ([], (p s).2) := by rw [loopP, if_pos h]
theorem numP_le (most : Int) (s : St) : (numP most s).2.1.length ≤ s.1.length := by
  rcases num_cases most s with ⟨-, e⟩ | ⟨n, k, r, e1, h1, h2, h3, h4, e, -⟩
  · rw [e]; exact Nat.zero_le _
  · rw [e]; simp only; omega
theorem numP_big (most : Int) (s : St) : (numP most s).1 < 10 ^ 17 := by
  rcases num_cases most s with ⟨-, e⟩ | ⟨n, k, r, e1, h1, h2, h3, h4, e, h5⟩
  · rw [e]; exact Nat.pow_pos (by decide)
  · rw [e]; exact h5
theorem box2 {x : World} {R : Nat} {T : TypeId} {a0 a1 : Value} (h : x.heap[R]? = some (.cells #[a0, a1] T (0, 0))) : x.cell? ⟨R, 0, none⟩ = some a0 ∧ x.cell? ⟨R, 1, none⟩ = some a1 := ⟨by rw [Lib.cell_of_heap h]; rfl, by rw [Lib.cell_of_heap h]; rfl⟩
theorem box3 {x : World} {R : Nat} {T : TypeId} {a0 a1 a2 : Value} (h : x.heap[R]? = some (.cells #[a0, a1, a2] T (0, 0))) : x.cell? ⟨R, 0, none⟩ = some a0 ∧ x.cell? ⟨R, 1, none⟩ = some a1 ∧ x.cell? ⟨R, 2, none⟩ = some a2 := ⟨by rw [Lib.cell_of_heap h]; rfl, by rw [Lib.cell_of_heap h]; rfl, by rw [Lib.cell_of_heap h]; rfl⟩
theorem box4 {x : World} {R : Nat} {T : TypeId} {a0 a1 a2 a3 : Value} (h : x.heap[R]? = some (.cells #[a0, a1, a2, a3] T (0, 0))) : x.cell? ⟨R, 0, none⟩ = some a0 ∧ x.cell? ⟨R, 1, none⟩ = some a1 ∧ x.cell? ⟨R, 2, none⟩ = some a2 ∧ x.cell? ⟨R, 3, none⟩ = some a3 := ⟨by rw [Lib.cell_of_heap h]; rfl, by rw [Lib.cell_of_heap h]; rfl, by rw [Lib.cell_of_heap h]; rfl, by rw [Lib.cell_of_heap h]; rfl⟩
theorem box6 {x : World} {R : Nat} {T : TypeId} {a0 a1 a2 a3 a4 a5 : Value} (h : x.heap[R]? = some (.cells #[a0, a1, a2, a3, a4, a5] T (0, 0))) : x.cell? ⟨R, 0, none⟩ = some a0 ∧ x.cell? ⟨R, 1, none⟩ = some a1 ∧ x.cell? ⟨R, 2, none⟩ = some a2 ∧ x.cell? ⟨R, 3, none⟩ = some a3 ∧ x.cell? ⟨R, 4, none⟩ = some a4 ∧ x.cell? ⟨R, 5, none⟩ = some a5 := ⟨by rw [Lib.cell_of_heap h]; rfl, by rw [Lib.cell_of_heap h]; rfl, by rw [Lib.cell_of_heap h]; rfl, by rw [Lib.cell_of_heap h]; rfl, by rw [Lib.cell_of_heap h]; rfl, by rw [Lib.cell_of_heap h]; rfl⟩
end Ck
end Go.Proofs.YtopncohhagebbaaDoor
