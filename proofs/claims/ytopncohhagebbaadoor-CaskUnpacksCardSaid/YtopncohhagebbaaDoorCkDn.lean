/-
  Layer 10 (cask): the document's TakeNumber, TakeText, TakeMark, at any text.
-/
import Derived.Test.YtopncohhagebbaaDoorCgB
namespace Go.Proofs.YtopncohhagebbaaDoor
open Go.RowKit Go.Sort
namespace Ck
open Knot (takeN takeT takeM value)
open Who (bs bs_list bs_size bs_self eq_of_list)

/-- What was taken of a text's front, and how many bytes that was. -/
def Cutd (l r : List UInt8) (k : Nat) : Prop := 1 ≤ k ∧ k + r.length = l.length ∧ l.drop k = r
theorem num_head {l : List UInt8} {h : 0 < l.length} {c : Nat} (hc : l[0].toNat = c) (he : UInt8.ofNat c = 48) : l.head? = some 48 := by
  cases l with
  | nil => simp at h
  | cons a m =>
    have e : a.toNat = c := hc
    rw [List.head?_cons, ← he, ← e, UInt8.ofNat_toNat]

set_option maxHeartbeats 4000000 in
set_option maxRecDepth 100000 in
/-- The document's number, as what the scan says. -/
theorem dnums_any (s : ByteArray) (most : Int) (w : World) (hz : s.size ≤ 1000000000000) :
    Calls Tryd.prog 14 #[.string s, .int .i64 most] w fun e x => e = .returned (.tuple #[.int .i64 (numS s.data.toList most).1, .int .i64 (numS s.data.toList most).2]) ∧ w = x := by
  have hsz : s.data.toList.length = s.size := by rw [Lib.size_eq]
  have HZ := Lib.hid hsz
  go_enter Tryd.func14, Tryd.ntmps14
  go_wp2
  go_loop [6, 7] (fun a b => ∃ (k : Nat), a = .int .i64 (value 0 (s.data.toList.take k) : Nat) ∧ b = .int .i64 k ∧ k ≤ s.size ∧ Hid (Pre s.data.toList k)) (fun _ b => s.size - (intOf b).toNat)
  case atStart => exact ⟨0, by simp [Knot.value_nil], rfl, by omega, Lib.hid (pre_zero _)⟩
  case round =>
    obtain ⟨k, rfl, rfl, hk, HP⟩ := hrel
    by_cases hp : k < s.size
    · have hpl : k < s.data.toList.length := by omega
      have hbn := byte_num hpl
      have hb8 := (s[k]).toNat_lt
      have h17 := HP.out.2.1
      by_cases h59 : (s[k]).toNat = 59
      · have hb : s.data.toList[k] = 59 := by rw [hbn]; exact UInt8.toNat_inj.1 (by rw [h59]; rfl)
        by_cases h0 : k = 0
        · have HE := Lib.hid (scan_stop_bad (most := most) HP.out hpl hb (.inl h0))
          subst h0
          rw [List.take_zero, Knot.value_nil]
          clear hb hbn
          go_wp2
          go_ret2
          exact ⟨by rw [HE.out]; rfl, rfl⟩
        · by_cases hmo : most < ((value 0 (s.data.toList.take k) : Nat) : Int)
          · have HE := Lib.hid (scan_stop_bad (most := most) HP.out hpl hb (.inr (.inl hmo)))
            generalize value 0 (s.data.toList.take k) = v at *
            clear hb hbn
            go_wp2
            go_ret2
            exact ⟨by rw [HE.out]; rfl, rfl⟩
          · by_cases h1 : k = 1
            · have HE := Lib.hid (scan_stop (most := most) HP.out hpl hb (by omega) (by omega) (by omega))
              subst h1
              generalize value 0 (s.data.toList.take 1) = v at *
              clear hb hbn
              go_wp2
              go_ret2
              exact ⟨by rw [HE.out]; rfl, rfl⟩
            · have hp0 : 0 < s.size := by omega
              by_cases h48 : (s[0]).toNat = 48
              · have HE := Lib.hid (scan_stop_bad (most := most) HP.out hpl hb (.inr (.inr ⟨by omega, num_head (h := by omega) (c := 48) (by rw [byte_num]; exact h48) rfl⟩)))
                generalize value 0 (s.data.toList.take k) = v at *
                clear hb hbn
                go_wp2
                go_ret2
                exact ⟨by rw [HE.out]; rfl, rfl⟩
              · have hh : 1 < k → s.data.toList.head? ≠ some 48 := fun _ hc => by
                  rw [List.head?_eq_getElem?, List.getElem?_eq_getElem (by omega), byte_num (by omega)] at hc
                  exact h48 (by rw [Option.some.inj hc]; rfl)
                have HE := Lib.hid (scan_stop (most := most) HP.out hpl hb (by omega) (by omega) hh)
                generalize value 0 (s.data.toList.take k) = v at *
                have ek : ((k : Int) == 0) = false := by simp; omega
                have es : (((s[0]).toNat : Int) == 48) = false := by simp; omega
                clear hb hbn hh
                go_wp2
                go_ret2
                exact ⟨by rw [HE.out]; rfl, rfl⟩
      · have hb : s.data.toList[k] ≠ 59 := by rw [hbn]; exact fun e => h59 (by rw [e]; rfl)
        by_cases hd : 48 ≤ (s[k]).toNat ∧ (s[k]).toNat ≤ 57
        · obtain ⟨d1, d2⟩ := hd
          by_cases h16 : 16 < k
          · have HE := Lib.hid (scan_long (most := most) HP.out hpl hb (by omega))
            generalize value 0 (s.data.toList.take k) = v at *
            clear hb hbn
            go_wp2
            go_ret2
            exact ⟨by rw [HE.out]; rfl, rfl⟩
          · obtain ⟨hpre, hst, hlt⟩ := scan_step HP.out hpl (by rw [hbn]; exact ⟨d1, d2⟩) (by omega)
            rw [hbn] at hst
            have HN := Lib.hid (And.intro hpre hst)
            generalize value 0 (s.data.toList.take k) = v at *
            clear hb hbn hpre hst
            go_wp2
            go_round
            case rel => exact ⟨k + 1, by rw [HN.out.2]; congr 1; omega, by go_num, by omega, Lib.hid HN.out.1⟩
            case measure => simp [intOf]; omega
        · have HE := Lib.hid (scan_byte (most := most) HP.out hpl (by rw [hbn]; omega) (.inl hb))
          generalize value 0 (s.data.toList.take k) = v at *
          rcases (show (s[k]).toNat < 48 ∨ 57 < (s[k]).toNat by omega) with h1 | h1
          all_goals
            clear hd hb hbn
            go_wp2
            go_ret2
            exact ⟨by rw [HE.out]; rfl, rfl⟩
    · obtain rfl : k = s.size := by omega
      have hpe := HP.out
      rw [← hsz] at hpe
      have HE := Lib.hid (scan_end (most := most) hpe)
      generalize value 0 (s.data.toList.take s.size) = v at *
      clear hpe
      go_wp2
      go_ret2
      exact ⟨by rw [HE.out]; rfl, rfl⟩
/-- The document's number. -/
theorem dnum_any (s : ByteArray) (most : Int) (w : World) (hz : s.size ≤ 1000000000000) :
    Calls Tryd.prog 14 #[.string s, .int .i64 most] w fun e x => w = x ∧ ((takeN s.data.toList most = none ∧ e = .returned (.tuple #[.int .i64 0, .int .i64 0])) ∨
      ∃ (n k : Nat) (r : List UInt8), takeN s.data.toList most = some (n, r) ∧ Cutd s.data.toList r k ∧ n < 10 ^ 17 ∧ (n : Int) ≤ most ∧ e = .returned (.tuple #[.int .i64 n, .int .i64 k])) := by
  refine (dnums_any s most w hz).mono ?_
  rintro e x ⟨rfl, hw⟩
  refine ⟨hw, ?_⟩
  cases ht : takeN s.data.toList most with
  | none => exact .inl ⟨rfl, by rw [numS, ht]; rfl⟩
  | some p =>
    obtain ⟨n, r⟩ := p
    obtain ⟨k, h1, h2, h3, h4⟩ := takeN_len ht
    have h5 := takeN_of ht
    exact .inr ⟨n, k, r, rfl, ⟨h1, h2, h3⟩, h5.2.2, h5.2.1, by rw [h4]⟩

set_option maxHeartbeats 4000000 in
set_option maxRecDepth 100000 in
/-- The document's text. -/
theorem dtext_any (s : ByteArray) (most : Int) (w : World) (hz : s.size ≤ 1000000000000) :
    Calls Tryd.prog 15 #[.string s, .int .i64 most] w fun e x => w = x ∧ ((takeT s.data.toList most = none ∧ e = .returned (.tuple #[.string ⟨#[]⟩, .int .i64 0])) ∨
      ∃ (t r : List UInt8) (k : Nat), takeT s.data.toList most = some (t, r) ∧ Cutd s.data.toList r k ∧ (t.length : Int) ≤ most ∧ e = .returned (.tuple #[.string (bs t), .int .i64 k])) := by
  have hsz : s.data.toList.length = s.size := by rw [Lib.size_eq]
  have HN := Lib.hid (dnum_any s most w hz)
  go_enter Tryd.func15, Tryd.ntmps15
  go_wp2_with fail
  refine HN.out.mono ?_
  rintro e x ⟨rfl, hcase⟩
  clear HN
  rcases hcase with ⟨ht, rfl⟩ | ⟨n, k, r, ht, ⟨hk1, hk2, hk3⟩, hn17, hnm, rfl⟩
  · have HT := Lib.hid (show takeT s.data.toList most = none by rw [takeT, ht])
    clear ht
    go_wp2_with fail
    go_ret2
    exact ⟨rfl, .inl ⟨HT.out, rfl⟩⟩
  · have ek : ((k : Int) == 0) = false := by simp; omega
    by_cases hnr : n < r.length
    · have hkn : k + n < s.size := by omega
      have hbn := byte_num (s := s) (p := k + n) (by omega)
      have hat : r[n]? = some (s.data.toList[k + n]'(by omega)) := by simp only [← hk3, List.getElem?_drop]; exact List.getElem?_eq_getElem (by omega)
      by_cases h44 : (s[k + n]).toNat = 44
      · have hb : r[n]? = some 44 := by rw [hat, hbn]; exact congrArg some (UInt8.toNat_inj.1 (by rw [h44]; rfl))
        have HT := Lib.hid (show takeT s.data.toList most = some (r.take n, r.drop (n + 1)) by rw [takeT, ht]; exact if_pos hb)
        have HC := Lib.hid (show Cutd s.data.toList (r.drop (n + 1)) (k + n + 1) from ⟨by omega, by rw [List.length_drop]; omega, by rw [← hk3, List.drop_drop, Nat.add_assoc]⟩)
        have hx : s.extract k (k + n) = bs (r.take n) := by
          refine eq_of_list ?_
          rw [bs_list, Lib.extract_data, ← hk3]
          congr 1
          omega
        have hsl : ∀ W, (Instr.slice 9 (.string s) (some (.int .i64 (k : Int))) (some (.int .i64 ((k : Int) + (n : Int)))) none).run Tryd.prog W = .ok (.string (bs (r.take n))) W := fun W => by
          rw [run_slice_string W 9 s .i64 .i64 _ _ Tryd.underlying9 (by omega) (by omega) (by omega), Int.toNat_natCast, show ((k : Int) + (n : Int)).toNat = k + n by omega, hx]
        have e1 : decide ((s.size : Int) - (k : Int) - 1 < (n : Int)) = false := by simp; omega
        have e2 : (((s[k + n]).toNat : Int) != 44) = false := by simp [h44]
        clear ht hb hat hbn hk3 hx
        generalize hbt : bs (r.take n) = bt at *
        go_wp2
        go_ret2
        exact ⟨rfl, .inr ⟨_, _, k + n + 1, HT.out, HC.out, by rw [List.length_take]; omega, by rw [hbt]; rfl⟩⟩
      · have hb : r[n]? ≠ some 44 := by rw [hat, hbn]; exact fun e => h44 (by rw [Option.some.inj e]; rfl)
        have HT := Lib.hid (show takeT s.data.toList most = none by rw [takeT, ht]; exact if_neg hb)
        have e1 : decide ((s.size : Int) - (k : Int) - 1 < (n : Int)) = false := by simp; omega
        have e2 : (((s[k + n]).toNat : Int) != 44) = true := by simp; omega
        clear ht hb hat hbn hk3
        go_wp2
        go_ret2
        exact ⟨rfl, .inl ⟨HT.out, rfl⟩⟩
    · have hb : r[n]? ≠ some 44 := by rw [List.getElem?_eq_none (by omega)]; exact fun e => by cases e
      have HT := Lib.hid (show takeT s.data.toList most = none by rw [takeT, ht]; exact if_neg hb)
      have e1 : decide ((s.size : Int) - (k : Int) - 1 < (n : Int)) = true := by simp; omega
      clear ht hb hk3
      go_wp2
      go_ret2
      exact ⟨rfl, .inl ⟨HT.out, rfl⟩⟩

set_option maxHeartbeats 4000000 in
set_option maxRecDepth 100000 in
/-- The document's mark. -/
theorem dmark_any (s : ByteArray) (w : World) (hz : s.size ≤ 1000000000000) :
    Calls Tryd.prog 29 #[.string s] w fun e x => w = x ∧ ((takeM s.data.toList = none ∧ e = .returned (.tuple #[.bool false, .int .i64 0])) ∨
      ∃ (m : Bool) (r : List UInt8), takeM s.data.toList = some (m, r) ∧ Cutd s.data.toList r 1 ∧ e = .returned (.tuple #[.bool m, .int .i64 1])) := by
  cases hl : s.data.toList with
  | nil =>
    have h0 : s = ⟨#[]⟩ := eq_of_list hl
    subst h0
    go_enter Tryd.func29, Tryd.ntmps29
    go_wp2
    go_ret2
    exact ⟨rfl, .inl ⟨rfl, rfl⟩⟩
  | cons a r =>
    have hsz : 0 < s.size := by rw [Lib.size_eq, hl]; simp
    have h0 : (s[0]).toNat = a.toNat := by
      have := byte_num (s := s) (p := 0) (by rw [hl]; simp)
      rw [← this]
      simp [hl]
    have hi1 : s.toList.isEmpty = false := by rw [Lib.toList_data, hl]; rfl
    have hi2 : (s.toList == []) = false := by rw [Lib.toList_data, hl]; rfl
    have hi3 : ¬ s.toList = [] := by rw [Lib.toList_data, hl]; simp
    have HC := Lib.hid (show Cutd (a :: r) r 1 from ⟨by omega, by simp; omega, rfl⟩)
    clear hl
    go_enter Tryd.func29, Tryd.ntmps29
    by_cases h43 : a.toNat = 43
    · obtain rfl : a = 43 := UInt8.toNat_inj.1 (by rw [h43]; rfl)
      rw [h43] at h0
      go_wp2
      go_ret2
      exact ⟨rfl, .inr ⟨true, r, rfl, HC.out, rfl⟩⟩
    · by_cases h45 : a.toNat = 45
      · obtain rfl : a = 45 := UInt8.toNat_inj.1 (by rw [h45]; rfl)
        rw [h45] at h0
        go_wp2
        go_ret2
        exact ⟨rfl, .inr ⟨false, r, rfl, HC.out, rfl⟩⟩
      · have HT := Lib.hid (show takeM (a :: r) = none from by
          unfold takeM
          split
          · rename_i h; exact absurd (by rw [(List.cons.inj h).1]; rfl) h43
          · rename_i h; exact absurd (by rw [(List.cons.inj h).1]; rfl) h45
          · rfl)
        have e1 : (((s[0]).toNat : Int) != 43) = true := by simp; omega
        have e2 : (((s[0]).toNat : Int) != 45) = true := by simp; omega
        clear h0
        go_wp2
        go_ret2
        exact ⟨rfl, .inl ⟨HT.out, rfl⟩⟩
end Ck
end Go.Proofs.YtopncohhagebbaaDoor
