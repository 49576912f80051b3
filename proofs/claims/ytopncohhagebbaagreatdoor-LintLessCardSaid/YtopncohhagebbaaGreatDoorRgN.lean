/-
  The document's Name.
  Layer 5 (tract): Word, the document's.
  Layer 5's document at nodes of up to 100000 parts: its Good, and its Same at two readings of one node.
  Layer 5's document at nodes of up to 100000 parts: Size, Depth, Fits; and how many nodes a statement lets be. (Written out of XTrRefA and XTrSame, for seats that have NdMem; to be tried at stage 8's seat.)
-/
import Derived.Test.YtopncohhagebbaaGreatDoorMgMem
import Derived.Test.YtopncohhagebbaaGreatDoorMgPure
namespace Go.Proofs.YtopncohhagebbaaGreatDoor
open Go.RowKit
namespace Ref

set_option maxHeartbeats 2000000 in
set_option maxRecDepth 100000 in
theorem name_free (s : ByteArray) (w : World) (hs : s.size ≤ 9223372036854775807) :
    Calls Tryz.prog 25 #[.string s] w fun e w' => e = .returned (.bool (Gly.nameB s.data.toList)) ∧ w = w' := by
  go_enter Tryz.func25, Tryz.ntmps25
  go_wp2
  go_loop [3] (fun i => ∃ (k : Nat), i = .int .i64 k ∧ Hid (Gly.nameOk (k == 0) (s.data.toList.drop k) = Gly.nameOk true s.data.toList) ∧ k ≤ s.size) (fun i => s.size - (intOf i).toNat)
  case atStart => exact ⟨0, rfl, rfl, by omega⟩
  case round =>
    obtain ⟨k, rfl, HS, hk⟩ := hrel
    by_cases hp : k < s.size
    · have hne := Gl.drop_ne hp
      have hst := Gly.nameOk_step hne (k == 0)
      rw [byte_at0 hp, List.drop_drop, HS.out] at hst
      have hby := (s[k]).toNat_lt
      have hpz : (k + 1 == 0) = false := by simp
      have HZ := Lib.hid hpz
      clear hpz hne
      by_cases hl : 97 ≤ (s[k]).toNat ∧ (s[k]).toNat ≤ 122
      · rw [show Gly.letterB (s[k]).toNat = true by simp [Gly.letterB]; exact hl, Bool.true_or, Bool.true_and] at hst
        have HN := Lib.hid hst
        obtain ⟨l1, l2⟩ := hl
        clear hst
        go_wp2
        go_round
        case rel => exact ⟨k + 1, by go_num, Lib.hid (by rw [HZ.out, HN.out]), by omega⟩
        case measure => simp [intOf]; omega
      · rw [show Gly.letterB (s[k]).toNat = false by simp [Gly.letterB]; omega, Bool.false_or] at hst
        by_cases h0 : k = 0
        · subst h0
          have HN := Lib.hid hst
          clear hst
          rcases (show (s[0]).toNat < 97 ∨ 122 < (s[0]).toNat by omega) with h1 | h1
          all_goals
            clear hl
            go_wp2
            go_ret
            exact ⟨by rw [Gly.nameB, HN.out]; simp, rfl⟩
        · have p0 : (k == 0) = false := by simp; omega
          have p1 : ((k : Int) == 0) = false := by simp; omega
          rw [p0] at hst
          clear p0
          by_cases hd : 48 ≤ (s[k]).toNat ∧ (s[k]).toNat ≤ 57
          · rw [show Gly.digitB (s[k]).toNat = true by simp [Gly.digitB]; exact hd] at hst
            have HN := Lib.hid hst
            obtain ⟨d1, d2⟩ := hd
            clear hst hl
            go_wp2
            go_round
            case rel => exact ⟨k + 1, by go_num, Lib.hid (by rw [HZ.out, HN.out]; simp), by omega⟩
            case measure => simp [intOf]; omega
          · rw [show Gly.digitB (s[k]).toNat = false by simp [Gly.digitB]; omega, Bool.false_or] at hst
            by_cases h95 : (s[k]).toNat = 95
            · rw [h95] at hst
              have HN := Lib.hid hst
              have hn1 : (((s[k]).toNat : Int) != 95) = false := by rw [h95]; rfl
              have b1 : 58 ≤ (s[k]).toNat := by omega
              have b2 : (s[k]).toNat ≤ 96 := by omega
              clear hst hl hd h95
              go_wp2
              go_round
              case rel => exact ⟨k + 1, by go_num, Lib.hid (by rw [HZ.out, HN.out]; simp), by omega⟩
              case measure => simp [intOf]; omega
            · rw [show ((s[k]).toNat == 95) = false by simp [h95]] at hst
              have HN := Lib.hid hst
              have hn1 : (((s[k]).toNat : Int) != 95) = true := by rw [bne_iff_ne]; omega
              clear hst
              rcases (show (s[k]).toNat < 48 ∨ (57 < (s[k]).toNat ∧ (s[k]).toNat < 97) ∨ 122 < (s[k]).toNat by omega) with h1 | ⟨h1, h2⟩ | h1
              all_goals
                clear hl hd h95
                go_wp2
                go_ret
                exact ⟨by rw [Gly.nameB, HN.out]; simp, rfl⟩
    · have hc := HS.out
      rw [Gl.drop_end hp, Gly.nameOk] at hc
      have hke : k = s.size := by omega
      have hfin : Gly.nameB s.data.toList = decide (1 ≤ s.size ∧ s.size ≤ 16) := by rw [Gly.nameB, ← hc, Bool.and_true, ← Lib.size_eq]
      have HF := Lib.hid hfin
      clear hc hfin hke
      by_cases g1 : 1 ≤ s.size
      · by_cases g2 : s.size ≤ 16
        · go_wp2
          go_ret
          exact ⟨by rw [HF.out]; simp [g1]; omega, rfl⟩
        · go_wp2
          go_ret
          exact ⟨by rw [HF.out]; simp [g1]; omega, rfl⟩
      · go_wp2
        go_ret
        exact ⟨by rw [HF.out]; simp [g1], rfl⟩
theorem name_any (s : ByteArray) (w : World) (hs : s.size ≤ 4000000) :
    Calls Tryz.prog 25 #[.string s] w fun e w' => e = .returned (.bool (Gly.nameB s.data.toList)) ∧ w = w' := name_free s w (by omega)
end Ref
end Go.Proofs.YtopncohhagebbaaGreatDoor

namespace Go.Proofs.YtopncohhagebbaaGreatDoor
open Go.RowKit
namespace Tr

theorem rword_any (s : ByteArray) (w : World) (hs : s.size ≤ maxLen) :
    Calls Tryz.prog 13 #[.string s] w fun e x => e = .returned (.bool (word s)) ∧ Below w.heap.size w x := by
  have HC := Lib.hid (Ref.name_free s w (by unfold maxLen at hs; omega))
  have ht : s.toList = s.data.toList := Lib.toList_data s
  have HT := Lib.hid ht
  clear hs
  clear ht
  cases hn : Gly.nameB s.data.toList with
  | false =>
    rw [hn] at HC
    have hw : word s = false := by rw [word, hn, Bool.false_and]
    have HW := Lib.hid hw
    clear hw hn
    go_enter Tryz.func13, Tryz.ntmps13
    go_wp2_with fail
    refine HC.out.mono ?_
    rintro e x ⟨rfl, rfl⟩
    go_wp2_with fail
    go_ret
    exact ⟨by rw [HW.out]; rfl, Below.refl _ _⟩
  | true =>
    rw [hn] at HC
    have hw : word s = (!s.toList == [116, 121, 112, 101] && !s.toList == [114, 101, 108] && !s.toList == [116, 104, 105, 115]) := by rw [word, hn, Bool.true_and, HT.out]
    have HW := Lib.hid hw
    clear hw hn HT
    by_cases h1 : s.toList = [116, 121, 112, 101]
    · rw [h1] at HW
      have HW2 := Lib.hid (HW.out.trans (by rfl : _ = false))
      clear HW
      go_enter Tryz.func13, Tryz.ntmps13
      go_wp2_with fail
      refine HC.out.mono ?_
      rintro e x ⟨rfl, rfl⟩
      go_wp2_with fail
      go_ret
      exact ⟨by rw [HW2.out]; rfl, Below.refl _ _⟩
    · have e1 : (s.toList == [116, 121, 112, 101]) = false := by simpa using h1
      rw [e1] at HW
      by_cases h2 : s.toList = [114, 101, 108]
      · rw [h2] at HW
        have HW2 := Lib.hid (HW.out.trans (by rfl : _ = false))
        clear HW
        go_enter Tryz.func13, Tryz.ntmps13
        go_wp2_with fail
        refine HC.out.mono ?_
        rintro e x ⟨rfl, rfl⟩
        go_wp2_with fail
        go_ret
        exact ⟨by rw [HW2.out]; rfl, Below.refl _ _⟩
      · have e2 : (s.toList == [114, 101, 108]) = false := by simpa using h2
        rw [e2] at HW
        clear h1 h2
        go_enter Tryz.func13, Tryz.ntmps13
        go_wp2_with fail
        refine HC.out.mono ?_
        rintro e x ⟨rfl, rfl⟩
        go_wp2_with fail
        go_ret
        exact ⟨by rw [HW.out]; simp, Below.refl _ _⟩
end Tr
end Go.Proofs.YtopncohhagebbaaGreatDoor

namespace Go.Proofs.YtopncohhagebbaaGreatDoor
open Go.RowKit
namespace Gr
open Tr (Nd IsNode IsNodes Box4 node4 good goods fits size sizes word nil none0 size_pos size_kids sizes_len sizes_mem goods_take goods_part rword_any RowAt)
open Who (wp_region_class quiet_of)

theorem empty_iff (s : ByteArray) : nil s = s.toList.isEmpty := by rw [nil, Lib.toList_data]
theorem len_zero (n : Nat) : ((n : Int) == 0) = (n == 0) := by
  by_cases h : n = 0
  · subst h; rfl
  · rw [beq_eq_false_iff_ne.2 h]; simp; omega
theorem len_two (n : Nat) : ((n : Int) == 2) = (n == 2) := by
  by_cases h : n = 2
  · subst h; rfl
  · rw [beq_eq_false_iff_ne.2 h]; simp; omega

set_option maxHeartbeats 8000000 in
set_option maxRecDepth 100000 in
theorem rgood_any : ∀ (q : Nat) (n : Nd) (v : Value) (w : World), size n ≤ q → size n ≤ 100000 → IsNode w n v →
    Calls Tryz.prog 147 #[v] w fun e x => e = .returned (.bool (good n)) ∧ Below w.heap.size w x := by
  intro q
  induction q with
  | zero => intro n v w h; have := size_pos n; omega
  | succ q ih =>
    intro n v w hk hl hn
    obtain ⟨ao, cap, vs, rfl, hs, hks⟩ := hn.kids
    have hsz := size_kids n
    have hlen := sizes_len n.kids
    have HI := Lib.hid ih
    have hlen3 : n.kids.length ≤ 100000 := by omega
    have HZ := Lib.hid (And.intro hsz hk)
    clear hn ih hlen hsz hk
    cases n with
    | mk k a b l =>
    have HK : Hid (Tr.Kids w l ao vs) := hks
    change (Nd.mk k a b l).kids.length ≤ 100000 at hlen3
    change l.length ≤ 100000 at hlen3
    have HA := Lib.hid (fun w => rword_any a w hs.1)
    have HB := Lib.hid (fun w => rword_any b w hs.2)
    clear hks hs
    show Calls _ _ #[node4 k a b (.slice ao l.length cap)] _ _
    go_enter Tryz.func147, Tryz.ntmps147
    go_wp2_with fail
    go_loopw [7] (fun i wr => ∃ j : Nat, j ≤ l.length ∧ i = .int .i64 j ∧ Hid (goods (l.take j) = true) ∧ Box4 w.heap.size k a b (.slice ao l.length cap) wr ∧ Below w.heap.size w wr) (fun i _ => l.length - (intOf i).toNat)
    case atStart => exact ⟨0, by omega, rfl, rfl, Box4.new w _ _ _ _, (Below.refl _ _).alloc (Nat.le_refl _) _⟩
    case round =>
      obtain ⟨j, hj, rfl, HG, hh, hb⟩ := hrel
      have HB2 := Lib.hid (And.intro hb hh)
      obtain ⟨b0, b1, b2, b3⟩ := hh.cells
      by_cases hlt : j < l.length
      · obtain ⟨g, q, sa, sc, hix, hg, c0, c1, c2, c3, hn⟩ := (HK.out.below hb).at cap hlt
        have hm := sizes_mem (List.getElem_mem hlt)
        have hz : size (Nd.mk k a b l) = 1 + sizes l := HZ.out.1
        have hz2 := HZ.out.2
        have hC := HI.out l[j] _ wr (by omega) (by omega) hn
        have ht := goods_take hlt
        rw [HG.out, Bool.true_and] at ht
        have HC := Lib.hid hC
        have HT := Lib.hid ht
        clear hb hn hC hh hm hz hz2 ht
        cases hgd : good l[j] with
        | true =>
          rw [hgd] at HC HT
          clear hgd
          go_wp2_with fail
          refine HC.out.mono ?_
          rintro e x ⟨rfl, hx⟩
          go_wp2_with fail
          go_roundw
          case rel => exact ⟨j + 1, by omega, by go_num, HT, HB2.out.2.on hx, HB2.out.1.trans (hx.mono HB2.out.1.size)⟩
          case measure => simp [intOf]; omega
        | false =>
          rw [hgd] at HC HT
          have HF := Lib.hid (show good (.mk k a b l) = false by rw [good, goods_part HT.out, Bool.false_and])
          clear hgd
          go_wp2_with fail
          refine HC.out.mono ?_
          rintro e x ⟨rfl, hx⟩
          go_wp2_with fail
          go_ret
          exact ⟨by rw [HF.out]; rfl, HB2.out.1.trans (hx.mono HB2.out.1.size)⟩
      · have hj' : j = l.length := by omega
        subst hj'
        have hgo := HG.out
        rw [List.take_length] at hgo
        have HGO := Lib.hid (show good (.mk k a b l) = fits (.mk k a b l) by rw [good, hgo, Bool.true_and])
        clear hgo hb hh hlt HG HI HZ HK
        by_cases h1 : k = 1
        · subst h1
          have HF := Lib.hid (show good (.mk 1 a b l) = (a.toList.isEmpty && b.toList.isEmpty && l.length == 0) by rw [HGO.out, fits, empty_iff, empty_iff]; simp)
          clear HGO
          go_wp2_with fail
          all_goals (go_ret; exact ⟨by rw [HF.out]; simp_all [len_zero] <;> omega, HB2.out.1⟩)
        by_cases h2 : k = 2
        · subst h2
          have HF := Lib.hid (show good (.mk 2 a b l) = (Tr.word a && b.toList.isEmpty && l.length == 0) by rw [HGO.out, fits, empty_iff, empty_iff]; simp)
          clear HGO
          go_wp2_with fail
          refine (HA.out _).mono ?_
          rintro e x ⟨rfl, hx⟩
          obtain ⟨-, -, d2, d3⟩ := (HB2.out.2.on hx).cells
          have HX := Lib.hid hx
          clear b0 b1 b2 b3 hx
          go_wp2_with fail
          all_goals (go_ret; exact ⟨by rw [HF.out]; simp_all [len_zero], HB2.out.1.trans (HX.out.mono HB2.out.1.size)⟩)
        by_cases h3 : k = 3
        · subst h3
          have HF := Lib.hid (show good (.mk 3 a b l) = (Tr.word a && Tr.word b && l.length == 0) by rw [HGO.out, fits, empty_iff, empty_iff]; simp)
          clear HGO
          go_wp2_with fail
          refine (HA.out _).mono ?_
          rintro e x ⟨rfl, hx⟩
          obtain ⟨-, -, d2, d3⟩ := (HB2.out.2.on hx).cells
          have HX := Lib.hid hx
          clear b0 b1 b2 b3 hx
          go_wp2_with fail
          all_goals first
            | (go_ret; exact ⟨by rw [HF.out]; simp_all, HB2.out.1.trans (HX.out.mono HB2.out.1.size)⟩)
            | (refine (HB.out _).mono ?_
               rintro e y ⟨rfl, hy⟩
               obtain ⟨-, -, -, e3⟩ := ((HB2.out.2.on HX.out).on hy).cells
               go_wp2_with fail
               all_goals (go_ret; exact ⟨by rw [HF.out]; simp_all [len_zero], (HB2.out.1.trans (HX.out.mono HB2.out.1.size)).trans (hy.mono (Nat.le_trans HB2.out.1.size HX.out.size))⟩))
        by_cases h4 : k = 4
        · subst h4
          have HF := Lib.hid (show good (.mk 4 a b l) = (a.toList.isEmpty && b.toList.isEmpty && decide (2 ≤ l.length)) by rw [HGO.out, fits, empty_iff, empty_iff]; simp)
          clear HGO
          go_wp2_with fail
          all_goals (go_ret; exact ⟨by rw [HF.out]; simp_all <;> omega, HB2.out.1⟩)
        by_cases h5 : k = 5
        · subst h5
          have HF := Lib.hid (show good (.mk 5 a b l) = (a.toList.isEmpty && b.toList.isEmpty && decide (2 ≤ l.length)) by rw [HGO.out, fits, empty_iff, empty_iff]; simp)
          clear HGO
          go_wp2_with fail
          all_goals (go_ret; exact ⟨by rw [HF.out]; simp_all <;> omega, HB2.out.1⟩)
        by_cases h6 : k = 6
        · subst h6
          have HF := Lib.hid (show good (.mk 6 a b l) = (a.toList.isEmpty && b.toList.isEmpty && l.length == 2) by rw [HGO.out, fits, empty_iff, empty_iff]; simp)
          clear HGO
          go_wp2_with fail
          all_goals (go_ret; exact ⟨by rw [HF.out]; simp_all [len_two] <;> omega, HB2.out.1⟩)
        have HF := Lib.hid (show good (.mk k a b l) = false by rw [HGO.out, fits]; simp [h1, h2, h3, h4, h5, h6])
        have e1 : (k == 1) = false := by simpa using h1
        have e2 : (k == 2) = false := by simpa using h2
        have e3 : (k == 3) = false := by simpa using h3
        have e4 : (k == 4) = false := by simpa using h4
        have e5 : (k == 5) = false := by simpa using h5
        have e6 : (k == 6) = false := by simpa using h6
        clear h1 h2 h3 h4 h5 h6 HGO
        go_wp2_with fail
        all_goals (go_ret; exact ⟨by rw [HF.out]; rfl, HB2.out.1⟩)
end Gr
end Go.Proofs.YtopncohhagebbaaGreatDoor

namespace Go.Proofs.YtopncohhagebbaaGreatDoor
open Go.RowKit
namespace Gr
open Tr (Nd IsNode IsNodes Box4 node4 good goods size sizes depth depths size_pos size_kids sizes_len sizes_mem sizes_part sizes_take depth_kids depth_le depths_le depths_take errOf)
def rest (left s : Nat) : Int := if s ≤ left then (left : Int) - s else -1
theorem rest_add (left a b : Nat) (h : a ≤ left) : rest (left - a) b = rest left (a + b) := by
  unfold rest
  split <;> split <;> omega

set_option maxHeartbeats 1000000 in
set_option maxRecDepth 100000 in
theorem count_any : ∀ (k : Nat) (n : Nd) (v : Value) (w : World) (left : Nat), size n ≤ k → IsNode w n v → left ≤ 300 →
    Calls Tryz.prog 39 #[v, .int .i64 left] w fun e x => e = .returned (.int .i64 (rest left (size n))) ∧ Below w.heap.size w x := by
  intro k
  induction k with
  | zero => intro n v w left h; have := size_pos n; omega
  | succ k ih =>
    intro n v w left hk hn hl
    obtain ⟨ao, cap, vs, rfl, -, hks⟩ := hn.kids
    have hsz := size_kids n
    have HK := Lib.hid hks
    have HI := Lib.hid ih
    have HZ := Lib.hid (And.intro hsz hk)
    have h1 : ((left : Int) - 1) = rest left 1 := by unfold rest; split <;> omega
    have H1 := Lib.hid h1
    clear hn hks ih hsz hk h1
    generalize n.kids = l at *
    go_enter Tryz.func39, Tryz.ntmps39
    go_wp2_with fail
    go_loopw [1, 12] (fun r i wr => ∃ j : Nat, j ≤ l.length ∧ i = .int .i64 j ∧ r = .int .i64 (rest left (1 + sizes (l.take j))) ∧ Below w.heap.size w wr) (fun _ i _ => l.length - (intOf i).toNat)
    case atStart => exact ⟨0, by omega, rfl, by rw [H1.out]; rfl, (Below.refl _ _).alloc (Nat.le_refl _) _⟩
    case round =>
      obtain ⟨j, hj, rfl, rfl, hb⟩ := hrel
      have hp := sizes_part l j
      have HB := Lib.hid hb
      by_cases hlt : j < l.length
      · obtain ⟨g, q, sa, sc, hix, hg, c0, c1, c2, c3, hn⟩ := (HK.out.below hb).at cap hlt
        have ht := sizes_take hlt
        by_cases hneg : rest left (1 + sizes (l.take j)) < 0
        · have hfin : rest left (1 + sizes (l.take j)) = rest left (size n) := by
            have := HZ.out.1
            unfold rest at hneg ⊢
            split at hneg
            · omega
            · rw [if_neg (by assumption), if_neg (by omega)]
          have HF := Lib.hid hfin
          clear hp ht hfin hb hn
          generalize rest left (1 + sizes (l.take j)) = R at *
          go_wp2_with fail
          go_ret
          exact ⟨by rw [HF.out]; rfl, HB.out.alloc HB.out.size _⟩
        · have hle : 1 + sizes (l.take j) ≤ left := by
            unfold rest at hneg
            split at hneg
            · assumption
            · omega
          have he : rest left (1 + sizes (l.take j)) = ((left - (1 + sizes (l.take j)) : Nat) : Int) := by unfold rest; rw [if_pos hle]; omega
          have hC := HI.out l[j] _ (wr.alloc (.cells #[.int .i64 l[j].kind, .string l[j].ta, .string l[j].tb, .slice sa l[j].kids.length sc] 47)) (left - (1 + sizes (l.take j))) (by
            have := HZ.out.1
            have := HZ.out.2
            have := sizes_mem (List.getElem_mem hlt)
            omega) (hn.below ((Below.refl _ _).alloc (Nat.le_refl _) _)) (by omega)
          rw [rest_add _ _ _ hle, show 1 + sizes (l.take j) + size l[j] = 1 + sizes (l.take (j + 1)) by omega, ← he] at hC
          have hj3 : j ≤ 300 := by
            have := sizes_len (l.take j)
            rw [List.length_take] at this
            omega
          have HC := Lib.hid hC
          clear hp ht hb hn hC he hle
          generalize rest left (1 + sizes (l.take j)) = R at *
          go_wp2_with fail
          refine HC.out.mono ?_
          rintro e x ⟨rfl, hx⟩
          go_wp2_with fail
          go_roundw
          case rel => exact ⟨j + 1, by omega, by go_num, rfl, (HB.out.alloc HB.out.size _).trans (hx.mono (by have := HB.out.size; simp; omega))⟩
          case measure => simp [intOf]; omega
      · have hj' : j = l.length := by omega
        subst hj'
        have he : rest left (1 + sizes (l.take l.length)) = rest left (size n) := by rw [List.take_length, HZ.out.1]
        rw [he]
        go_wp2_with fail
        go_ret
        exact ⟨rfl, HB.out⟩

theorem few_any (n : Nd) (v : Value) (w : World) (hn : IsNode w n v) :
    Calls Tryz.prog 14 #[v] w fun e x => e = .returned (.bool (decide (size n ≤ 300))) ∧ Below w.heap.size w x := by
  obtain ⟨ao, cap, vs, rfl, -, hks⟩ := hn.kids
  have hC := count_any (size n) n _ (w.alloc (.cells #[.int .i64 n.kind, .string n.ta, .string n.tb, .slice ao n.kids.length cap] 47)) 300 (Nat.le_refl _) (hn.below ((Below.refl _ _).alloc (Nat.le_refl _) _)) (by omega)
  have HC := Lib.hid hC
  have hR : decide (0 ≤ rest 300 (size n)) = decide (size n ≤ 300) := by
    unfold rest
    split
    · rename_i h; simp only [h, decide_true]; simp; omega
    · rename_i h; simp [h]
  have HR := Lib.hid hR
  clear hn hks hC hR
  generalize rest 300 (size n) = R at *
  go_enter Tryz.func14, Tryz.ntmps14
  go_wp2_with fail
  refine HC.out.mono ?_
  rintro e x ⟨rfl, hx⟩
  go_wp2_with fail
  go_ret
  exact ⟨by rw [← HR.out]; rfl, ((Below.refl _ _).alloc (Nat.le_refl _) _).trans (hx.mono (by simp))⟩

set_option maxHeartbeats 1000000 in
set_option maxRecDepth 100000 in
theorem rsize_any : ∀ (k : Nat) (n : Nd) (v : Value) (w : World), size n ≤ k → size n ≤ 100000 → IsNode w n v →
    Calls Tryz.prog 148 #[v] w fun e x => e = .returned (.int .i64 (size n : Nat)) ∧ Below w.heap.size w x := by
  intro k
  induction k with
  | zero => intro n v w h; have := size_pos n; omega
  | succ k ih =>
    intro n v w hk hl hn
    obtain ⟨ao, cap, vs, rfl, -, hks⟩ := hn.kids
    have hsz := size_kids n
    have hlen := sizes_len n.kids
    have HK := Lib.hid hks
    have HI := Lib.hid ih
    have HZ := Lib.hid hsz
    have hlen3 : n.kids.length ≤ 100000 := by omega
    clear hn hks ih
    generalize n.kids = l at *
    go_enter Tryz.func148, Tryz.ntmps148
    go_wp2_with fail
    go_loopw [3, 8] (fun r i wr => ∃ j : Nat, j ≤ l.length ∧ i = .int .i64 j ∧ r = .int .i64 ((1 + sizes (l.take j) : Nat) : Int) ∧ wr.heap[w.heap.size]? = some (.cells #[.int .i64 n.kind, .string n.ta, .string n.tb, .slice ao l.length cap] 47 (0, 0)) ∧ Below w.heap.size w wr) (fun _ i _ => l.length - (intOf i).toNat)
    case atStart => exact ⟨0, by omega, rfl, rfl, heap_alloc_new w _, (Below.refl _ _).alloc (Nat.le_refl _) _⟩
    case round =>
      obtain ⟨j, hj, rfl, rfl, hh, hb⟩ := hrel
      have hp := sizes_part l j
      have HB := Lib.hid (And.intro hb hh)
      by_cases hlt : j < l.length
      · obtain ⟨g, q, sa, sc, hix, hg, c0, c1, c2, c3, hn⟩ := (HK.out.below hb).at cap hlt
        have ht := sizes_take hlt
        have b3 : wr.cell? ⟨w.heap.size, 3, none⟩ = some (.slice ao l.length cap) := by rw [Lib.cell_of_heap hh]; rfl
        have hp1 := sizes_part l (j + 1)
        have hm := sizes_mem (List.getElem_mem hlt)
        have hC := HI.out l[j] _ wr (by omega) (by omega) hn
        have he : (((1 + sizes (l.take j) : Nat) : Int) + (size l[j] : Nat)) = ((1 + sizes (l.take (j + 1)) : Nat) : Int) := by omega
        have hle : size l[j] ≤ 100000 := by omega
        have hle2 : 1 + sizes (l.take j) ≤ 100001 := by omega
        have HC := Lib.hid hC
        have HE := Lib.hid he
        clear hp ht hb hn hC hh hp1 hm hsz hk he
        generalize hS : 1 + sizes (l.take j) = S at *
        generalize hT : size l[j] = T at *
        clear hS hT
        go_wp2_with fail
        refine HC.out.mono ?_
        rintro e x ⟨rfl, hx⟩
        go_wp2_with fail
        go_roundw
        case rel => exact ⟨j + 1, by omega, by go_num, by rw [← HE.out], (hx.block _ (Array.getElem?_eq_some_iff.1 HB.out.2).1).trans HB.out.2, HB.out.1.trans (hx.mono HB.out.1.size)⟩
        case measure => simp [intOf]; omega
      · have hj' : j = l.length := by omega
        subst hj'
        have he : 1 + sizes (l.take l.length) = size n := by rw [List.take_length, HZ.out]
        rw [he]
        go_wp2_with fail
        go_ret
        exact ⟨rfl, HB.out.1⟩

set_option maxHeartbeats 1000000 in
set_option maxRecDepth 100000 in
theorem rdepth_any : ∀ (k : Nat) (n : Nd) (v : Value) (w : World), size n ≤ k → size n ≤ 100000 → IsNode w n v →
    Calls Tryz.prog 149 #[v] w fun e x => e = .returned (.int .i64 (depth n : Nat)) ∧ Below w.heap.size w x := by
  intro k
  induction k with
  | zero => intro n v w h; have := size_pos n; omega
  | succ k ih =>
    intro n v w hk hl hn
    obtain ⟨ao, cap, vs, rfl, -, hks⟩ := hn.kids
    have hsz := size_kids n
    have hlen := sizes_len n.kids
    have HK := Lib.hid hks
    have HI := Lib.hid ih
    have HZ := Lib.hid (depth_kids n)
    have hlen3 : n.kids.length ≤ 100000 := by omega
    have hdm : ∀ {m : Nd}, m ∈ n.kids → depth m ≤ 100000 := fun {m} hm => by
      have h1 := depth_le m
      have h2 := sizes_mem hm
      omega
    have hdt : ∀ j, depths (n.kids.take j) ≤ 100000 := fun j => by
      have := depths_le (n.kids.take j)
      have := sizes_part n.kids j
      omega
    have HD := Lib.hid (And.intro @hdm hdt)
    clear hn hks ih hdm hdt
    generalize n.kids = l at *
    go_enter Tryz.func149, Tryz.ntmps149
    go_wp2_with fail
    go_loopw [3, 8] (fun r i wr => ∃ j : Nat, j ≤ l.length ∧ i = .int .i64 j ∧ r = .int .i64 ((1 + depths (l.take j) : Nat) : Int) ∧ wr.heap[w.heap.size]? = some (.cells #[.int .i64 n.kind, .string n.ta, .string n.tb, .slice ao l.length cap] 47 (0, 0)) ∧ Below w.heap.size w wr) (fun _ i _ => l.length - (intOf i).toNat)
    case atStart => exact ⟨0, by omega, rfl, rfl, heap_alloc_new w _, (Below.refl _ _).alloc (Nat.le_refl _) _⟩
    case round =>
      obtain ⟨j, hj, rfl, rfl, hh, hb⟩ := hrel
      have HB := Lib.hid (And.intro hb hh)
      by_cases hlt : j < l.length
      · obtain ⟨g, q, sa, sc, hix, hg, c0, c1, c2, c3, hn⟩ := (HK.out.below hb).at cap hlt
        have ht := depths_take hlt
        have b3 : wr.cell? ⟨w.heap.size, 3, none⟩ = some (.slice ao l.length cap) := by rw [Lib.cell_of_heap hh]; rfl
        have hm := sizes_mem (List.getElem_mem hlt)
        have hC := HI.out l[j] _ wr (by omega) (by omega) hn
        have he : max (1 + depths (l.take j)) (1 + depth l[j]) = 1 + depths (l.take (j + 1)) := by omega
        have hle : depth l[j] ≤ 100000 := HD.out.1 (List.getElem_mem hlt)
        have hle2 : 1 + depths (l.take j) ≤ 100001 := by have := HD.out.2 j; omega
        have HC := Lib.hid hC
        have HE := Lib.hid he
        clear ht hb hn hC hh hm hsz hk he
        generalize hS : 1 + depths (l.take j) = S at *
        generalize hT : depth l[j] = T at *
        clear hS hT
        go_wp2_with fail
        refine HC.out.mono ?_
        rintro e x ⟨rfl, hx⟩
        go_wp2_with fail
        go_roundw
        case rel => exact ⟨j + 1, by omega, by go_num, by rw [← HE.out]; go_num, (hx.block _ (Array.getElem?_eq_some_iff.1 HB.out.2).1).trans HB.out.2, HB.out.1.trans (hx.mono HB.out.1.size)⟩
        case measure => simp [intOf]; omega
      · have hj' : j = l.length := by omega
        subst hj'
        have he : 1 + depths (l.take l.length) = depth n := by rw [List.take_length, HZ.out]
        rw [he]
        go_wp2_with fail
        go_ret
        exact ⟨rfl, HB.out.1⟩
set_option maxHeartbeats 2000000 in
set_option maxRecDepth 100000 in
theorem rfits_any (n : Nd) (v : Value) (w : World) (hz : size n ≤ 100000) (hn : IsNode w n v) :
    Calls Tryz.prog 113 #[v] w fun e x => e = .returned (.int .i64 (errOf n)) ∧ Below w.heap.size w x := by
  obtain ⟨ao, cap, vs, rfl, -, -⟩ := hn.kids
  have HG := Lib.hid (fun x (hb : Below w.heap.size w x) => rgood_any (size n) n _ x (Nat.le_refl _) hz (hn.below hb))
  have HS := Lib.hid (fun x (hb : Below w.heap.size w x) => rsize_any (size n) n _ x (Nat.le_refl _) hz (hn.below hb))
  have HD := Lib.hid (fun x (hb : Below w.heap.size w x) => rdepth_any (size n) n _ x (Nat.le_refl _) hz (hn.below hb))
  have hdz := depth_le n
  have hB0 : Below w.heap.size w (w.alloc (.cells #[.int .i64 n.kind, .string n.ta, .string n.tb, .slice ao n.kids.length cap] 47)) := (Below.refl _ _).alloc (Nat.le_refl _) _
  have H0 := Lib.hid hB0
  have N0 := Lib.hid (Box4.new w n.kind n.ta n.tb (.slice ao n.kids.length cap))
  clear hn hB0
  cases hg : good n with
  | false =>
    have HE := Lib.hid (show errOf n = 2 by rw [errOf, if_pos hg])
    rw [hg] at HG
    clear hg
    go_enter Tryz.func113, Tryz.ntmps113
    go_wp2_with fail
    refine (HG.out _ H0.out).mono ?_
    rintro e x ⟨rfl, hx⟩
    go_wp2_with fail
    go_ret
    exact ⟨by rw [HE.out]; rfl, H0.out.trans (hx.mono H0.out.size)⟩
  | true =>
    have he : errOf n = if 24 < size n then 3 else if 8 < depth n then 12 else 0 := by rw [errOf, if_neg (by rw [hg]; simp)]
    rw [hg] at HG
    clear hg
    by_cases h1 : 24 < size n
    · rw [if_pos h1] at he
      have HE := Lib.hid he
      clear he
      go_enter Tryz.func113, Tryz.ntmps113
      go_wp2_with fail
      refine (HG.out _ H0.out).mono ?_
      rintro e x ⟨rfl, hx⟩
      have h2 := H0.out.trans (hx.mono H0.out.size)
      have N1 := N0.out.on hx
      obtain ⟨b0, b1, b2, b3⟩ := N1.cells
      have H2 := Lib.hid h2
      clear h2 hx
      go_wp2_with fail
      refine (HS.out _ H2.out).mono ?_
      rintro e y ⟨rfl, hy⟩
      go_wp2_with fail
      go_ret
      exact ⟨by rw [HE.out]; rfl, H2.out.trans (hy.mono H2.out.size)⟩
    · rw [if_neg h1] at he
      by_cases h2 : 8 < depth n
      all_goals
        simp only [h2, if_true, if_false] at he
        have HE := Lib.hid he
        clear he
        go_enter Tryz.func113, Tryz.ntmps113
        go_wp2_with fail
        refine (HG.out _ H0.out).mono ?_
        rintro e x ⟨rfl, hx⟩
        have h2 := H0.out.trans (hx.mono H0.out.size)
        have N1 := N0.out.on hx
        obtain ⟨b0, b1, b2, b3⟩ := N1.cells
        have H2 := Lib.hid (And.intro h2 N1)
        clear h2 hx N1
        go_wp2_with fail
        refine (HS.out _ H2.out.1).mono ?_
        rintro e y ⟨rfl, hy⟩
        have h3 := H2.out.1.trans (hy.mono H2.out.1.size)
        clear b0 b1 b2 b3
        obtain ⟨b0, b1, b2, b3⟩ := (H2.out.2.on hy).cells
        have H3 := Lib.hid h3
        clear h3 hy
        go_wp2_with fail
        refine (HD.out _ H3.out).mono ?_
        rintro e z ⟨rfl, hz⟩
        go_wp2_with fail
        go_ret
        exact ⟨by rw [HE.out]; rfl, H3.out.trans (hz.mono H3.out.size)⟩
end Gr
end Go.Proofs.YtopncohhagebbaaGreatDoor
