/-
  The statement SigilAgain at every text.
-/
import Derived.Test.YtjddojpmgdnicaaSgO
namespace Go.Proofs.Ytjddojpmgdnicaa
open Go.RowKit
namespace LawS6Again
open Sg
open Tr (own_slice own_below)

set_option maxHeartbeats 4000000 in
set_option maxRecDepth 100000 in
theorem walk (s : ByteArray) (w : World) (hs : s.size ≤ maxLen) :
    Calls Try.prog 7 #[.string s] w fun e w' => e = .returned (.bool true) ∧ Below w.heap.size w w' := by
  unfold maxLen at hs
  have HA := Lib.hid (fun w => awake_any w)
  by_cases hl : s.size ≤ 1000
  · have h1 := fun W => lex_any s W (by omega)
    have hql := fun q (h : Gly.runes s.data.toList = some q) => Gly.runes_len _ _ (Nat.le_refl _) q h
    rw [← Lib.size_eq] at hql
    by_cases hc : (ans (Gly.runes s.data.toList)).1 = 0
    · obtain ⟨q, hq, hq3, hok, han⟩ := ans_good hc
      have hq1 := hql q hq
      obtain ⟨htl, hal⟩ := lex_tells q.length q (1, 1) (Nat.le_refl _)
      obtain ⟨hk, hok2⟩ := lex_again (lex (1, 1) q).1 (1, 1) htl
      have hlow := again_low htl
      rw [han] at h1
      have h2 := fun W => lex_any (txt (again (lex (1, 1) q).1)) W (by rw [txt_size]; omega)
      rw [txt_runes hlow, ans_zero (by omega) hok2] at h2
      have htx : ∀ t ∈ (lex (1, 1) q).1, t.text.length ≤ 2000 := fun t ht => by have := again_mem ht; omega
      generalize (lex (1, 1) q).2.1 = p1 at *
      generalize (lex (1, 1) (again (lex (1, 1) q).1)).2.1 = p2 at *
      generalize (lex (1, 1) (again (lex (1, 1) q).1)).1 = m at *
      generalize (lex (1, 1) q).1 = l at *
      have hml : m.length = l.length := by rw [← kt_len, hk, kt_len]
      have hlal : (again l).length ≤ 2000 := by omega
      have hll : l.length ≤ 2000 := by
        have := again_len l
        omega
      have H1 := Lib.hid h1
      have H2 := Lib.hid h2
      have HK := Lib.hid (And.intro hk htx)
      have HML := Lib.hid hml
      clear h1 h2 hk htx hml hlow hok hok2 han hq hq1 hq3 hql hc htl hal
      go_enter Try.func7, Try.ntmps7
      go_wp2_with fail
      refine (HA.out _).mono ?_
      rintro e w1 ⟨rfl, b1⟩
      go_wp2_with fail
      refine (H1.out _).mono ?_
      rintro e w2 ⟨v2, rfl, o2, b2⟩
      replace b2 := b1.trans (b2.mono b1.size)
      obtain ⟨ao, ac, rfl⟩ := own_slice o2
      have hT := ToksAt.of o2
      have al := (Below.refl w2.heap.size w2).alloc (Nat.le_refl _) (.cells #[.int .i64 (p1.1 : Nat), .int .i64 (p1.2 : Nat)] 25)
      have HM := Lib.hid (And.intro (hT.on al) (b2.trans (al.mono b2.size)))
      clear o2 b1 hT al b2
      unfold plV
      go_wp2_with fail
      generalize w2.alloc (.cells #[.int .i64 (p1.1 : Nat), .int .i64 (p1.2 : Nat)] 25) = w3 at *
      go_loopw [6, 31] (fun x i wr => ∃ k : Nat, k ≤ l.length ∧ i = .int .i64 k ∧ x = .string (txt (again (l.take k))) ∧ Hid (ToksAt wr ao l ∧ Below w.heap.size w wr)) (fun _ i _ => l.length - (intOf i).toNat)
      case atStart => exact ⟨0, by omega, rfl, rfl, HM⟩
      case round =>
        obtain ⟨k, hk, rfl, rfl, HW⟩ := hrel
        by_cases hlt : k < l.length
        · obtain ⟨g, rfl, hg, c0, c1, c2, c3⟩ := HW.out.1 k hlt
          have hix := fun W => index_tok (g := g) (n := l.length) (cap := ac) hlt W
          have hsz := HK.out.2 l[k] (List.getElem_mem hlt)
          have hap := again_part l k
          have hat := again_take hlt
          have hs1 : (txt (again (l.take k))).size ≤ 2000 := by rw [txt_size]; omega
          have hs2 : (txt l[k].text).size ≤ 2000 := by rw [txt_size]; exact hsz
          have hcat : txt (again (l.take k)) ++ (txt l[k].text ++ ⟨#[32]⟩) = txt (again (l.take (k + 1))) := by
            rw [hat, show (⟨#[32]⟩ : ByteArray) = txt [32] from rfl, txt_append, txt_append]
          have hs3 : (txt l[k].text ++ ⟨#[32]⟩ : ByteArray).size ≤ 2001 := by
            rw [show (⟨#[32]⟩ : ByteArray) = txt [32] from rfl, txt_append, txt_size, List.length_append]; simp; omega
          have al := (Below.refl wr.heap.size wr).alloc (Nat.le_refl _) (.cells #[.int .i64 l[k].kind, .string (txt l[k].text), .int .i64 (l[k].at'.1 : Nat), .int .i64 (l[k].at'.2 : Nat)] 33)
          have HN := Lib.hid (And.intro (HW.out.1.on al) (HW.out.2.trans (al.mono HW.out.2.size)))
          have HC := Lib.hid hcat
          clear hcat hat hap hsz al HW
          generalize txt (again (l.take k)) = tA at *
          generalize txt l[k].text = tB at *
          generalize l[k].kind = kd at *
          generalize l[k].at' = pl at *
          go_wp2_with fail
          go_roundw
          case rel => exact ⟨k + 1, by omega, by go_num, by rw [HC.out], HN⟩
          case measure => simp [intOf]; omega
        · obtain rfl : k = l.length := by omega
          rw [List.take_length]
          clear hlt HM
          go_wp2_with fail
          refine (H2.out _).mono ?_
          rintro e w4 ⟨v4, rfl, o4, b4⟩
          rw [HML.out] at o4
          obtain ⟨mo, mc, rfl⟩ := own_slice o4
          rw [← HML.out] at o4
          have o4' : w4.ownsRow wr.heap.size 33 4 (.slice mo m.length mc) m.length (toksC m) := by
            have := o4
            rwa [HML.out] at this ⊢
          have hM := ToksAt.of o4'
          have al := (Below.refl w4.heap.size w4).alloc (Nat.le_refl _) (.cells #[.int .i64 (p2.1 : Nat), .int .i64 (p2.2 : Nat)] 25)
          have HZ := Lib.hid (And.intro (hM.on al) (And.intro ((HW.out.1.on b4).on al) (HW.out.2.trans ((b4.trans (al.mono b4.size)).mono HW.out.2.size))))
          clear o4 o4' hM al b4 HW H1 H2 HA
          unfold plV
          go_wp2_with fail
          generalize w4.alloc (.cells #[.int .i64 (p2.1 : Nat), .int .i64 (p2.2 : Nat)] 25) = w5 at *
          go_loopw [58] (fun i wr => ∃ k : Nat, k ≤ l.length ∧ i = .int .i64 k ∧ Hid (Below w5.heap.size w5 wr)) (fun i _ => l.length - (intOf i).toNat)
          case atStart => exact ⟨0, by omega, rfl, Lib.hid (Below.refl _ _)⟩
          case round =>
            obtain ⟨k, hk, rfl, HB⟩ := hrel
            by_cases hlt : k < l.length
            · have hlm : k < m.length := by rw [HML.out]; exact hlt
              obtain ⟨g, rfl, hg, c0, c1, -, -⟩ := (HZ.out.2.1.on HB.out) k hlt
              obtain ⟨f, rfl, hf, d0, d1, -, -⟩ := (HZ.out.1.on HB.out) k hlm
              obtain ⟨e1, e2⟩ := kt_at HK.out.1 hlm hlt
              rw [e1] at d0
              rw [e2] at d1
              have hix := fun W => index_tok (g := g) (n := l.length) (cap := ac) hlt W
              have hiy := fun W => index_tok (g := f) (n := l.length) (cap := mc) hlt W
              clear e1 e2 hlm hg hf
              generalize l[k].kind = kd at *
              generalize txt l[k].text = tB at *
              go_wp2_with fail
              go_quiet (fail)
              go_wp2_with fail
              go_roundw
              case rel => exact ⟨k + 1, by omega, by go_num, Lib.hid (below_drewN HB.out _)⟩
              case measure => simp [intOf]; omega
            · clear HML HK
              go_wp2_with fail
              go_ret
              exact ⟨rfl, HZ.out.2.2.trans (HB.out.mono HZ.out.2.2.size)⟩
    · have H1 := Lib.hid h1
      have hne : ((ans (Gly.runes s.data.toList)).1 != 0) = true := by simpa using hc
      clear h1 hc hql
      generalize ans (Gly.runes s.data.toList) = an at *
      obtain ⟨code, p, l⟩ := an
      simp only at hne
      go_enter Try.func7, Try.ntmps7
      go_wp2_with fail
      refine (HA.out _).mono ?_
      rintro e w1 ⟨rfl, b1⟩
      go_wp2_with fail
      refine (H1.out _).mono ?_
      rintro e w2 ⟨v2, rfl, o2, b2⟩
      replace b2 := b1.trans (b2.mono b1.size)
      obtain ⟨lo, lc, rfl⟩ := own_slice o2
      clear o2 b1
      unfold plV
      go_wp2
      go_ret
      exact ⟨rfl, b2.alloc b2.size _⟩
  · go_enter Try.func7, Try.ntmps7
    go_wp2_with fail
    refine (HA.out _).mono ?_
    rintro e w1 ⟨rfl, b1⟩
    go_wp2_with fail
    refine (HA.out _).mono ?_
    rintro e w2 ⟨rfl, b2⟩
    replace b2 := b1.trans (b2.mono b1.size)
    go_wp2
    go_ret
    exact ⟨rfl, b2⟩
end LawS6Again
end Go.Proofs.Ytjddojpmgdnicaa
