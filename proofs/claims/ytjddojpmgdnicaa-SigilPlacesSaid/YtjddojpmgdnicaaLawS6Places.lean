/-
  The statement SigilPlaces at every text.
-/
import Derived.Test.YtjddojpmgdnicaaSgQ
import Derived.Deep.DeepCutAuto
import Derived.Deep.LoopGhost
import Derived.Laws.StructEq
namespace Go.Proofs.Ytjddojpmgdnicaa
open Go.RowKit
namespace LawS6Places
open Sg
open Tr (own_slice own_below)

/-- A token in a box. -/
def TkB (R : Nat) (t : Tok) (x : World) : Prop := x.heap[R]? = some (.cells #[.int .i64 t.kind, .string (txt t.text), .int .i64 (t.at'.1 : Nat), .int .i64 (t.at'.2 : Nat)] 33 (0, 0))
theorem TkB.lt {R : Nat} {t : Tok} {x : World} (h : TkB R t x) : R < x.heap.size := (Array.getElem?_eq_some_iff.1 h).1
theorem TkB.cells {R : Nat} {t : Tok} {x : World} (h : TkB R t x) : TokAt x R 0 t :=
  ⟨by rw [Lib.cell_of_heap h]; rfl, by rw [Lib.cell_of_heap h]; rfl, by rw [Lib.cell_of_heap h]; rfl, by rw [Lib.cell_of_heap h]; rfl⟩
theorem TkB.on {R : Nat} {t : Tok} {x y : World} (h : TkB R t x) (hb : Below x.heap.size x y) : TkB R t y := (hb.block R h.lt).trans h

theorem bad (s : ByteArray) (w : World) (hs : s.size ≤ 4000) (hc : (ans (Gly.runes s.data.toList)).1 ≠ 0) :
    Calls Try.prog 5 #[.string s] w fun e w' => e = .returned (.bool true) ∧ Below w.heap.size w w' := by
  have HA := Lib.hid (fun w => awake_any w)
  have h1 := fun W => lex_any s W (by omega)
  have H1 := Lib.hid h1
  have hne : ((ans (Gly.runes s.data.toList)).1 != 0) = true := by simpa using hc
  clear h1 hc
  generalize ans (Gly.runes s.data.toList) = an at *
  obtain ⟨code, p, l⟩ := an
  simp only at hne
  go_enter Try.func5, Try.ntmps5
  go_wp2_with fail
  refine (HA.out _).mono ?_
  rintro e w1 ⟨rfl, b1⟩
  go_wp2_with fail
  refine (H1.out _).mono ?_
  rintro e w2 ⟨v2, rfl, o2, b2⟩
  replace b2 := b1.trans (b2.mono b1.size)
  obtain ⟨lo, lc, rfl⟩ := own_slice o2
  clear o2 b1
  unfold plV
  go_wp2
  go_ret
  exact ⟨rfl, b2.alloc b2.size _⟩

theorem long (s : ByteArray) (w : World) (hs : s.size ≤ maxLen) (hl : 4000 < s.size) :
    Calls Try.prog 5 #[.string s] w fun e w' => e = .returned (.bool true) ∧ Below w.heap.size w w' := by
  unfold maxLen at hs
  have HA := Lib.hid (fun w => awake_any w)
  go_enter Try.func5, Try.ntmps5
  go_wp2_with fail
  refine (HA.out _).mono ?_
  rintro e w1 ⟨rfl, b1⟩
  go_wp2_with fail
  refine (HA.out _).mono ?_
  rintro e w2 ⟨rfl, b2⟩
  replace b2 := b1.trans (b2.mono b1.size)
  go_wp2
  go_ret
  exact ⟨rfl, b2⟩

theorem pl_ne {a b : Nat × Nat} (h : a ≠ b) (W : World) : (binOp .eql 25 (.agg #[.int .i64 (a.1 : Nat), .int .i64 (a.2 : Nat)]) (.agg #[.int .i64 (b.1 : Nat), .int .i64 (b.2 : Nat)])).run Try.prog W = .ok (.bool false) W := by
  by_cases h1 : a.1 = b.1
  · have h2 : a.2 ≠ b.2 := fun h2 => h (Prod.ext h1 h2)
    have e1 : ((a.1 : Int) == (b.1 : Int)) = true := by simp [h1]
    have e2 : ((a.2 : Int) == (b.2 : Int)) = false := by simp; omega
    go_simp
  · have e1 : ((a.1 : Int) == (b.1 : Int)) = false := by simp; omega
    go_simp
theorem pl_eq (a : Nat × Nat) (W : World) : (binOp .eql 25 (.agg #[.int .i64 (a.1 : Nat), .int .i64 (a.2 : Nat)]) (.agg #[.int .i64 (a.1 : Nat), .int .i64 (a.2 : Nat)])).run Try.prog W = .ok (.bool true) W := by
  go_simp
theorem ext_list (s : ByteArray) (i j : Nat) : (s.extract i j).data.toList = (s.data.toList.drop i).take (j - i) := by rw [Lib.extract_data]
theorem ext_size {s : ByteArray} {i j : Nat} (h : s.size ≤ 4000) : (s.extract i j).size ≤ 4000 := by
  rw [Lib.size_eq, ext_list, List.length_take, List.length_drop, ← Lib.size_eq]; omega

set_option maxHeartbeats 8000000 in
set_option maxRecDepth 100000 in
theorem good (s : ByteArray) (w : World) (hs : s.size ≤ 4000) (hc : (ans (Gly.runes s.data.toList)).1 = 0) :
    Calls Try.prog 5 #[.string s] w fun e w' => e = .returned (.bool true) ∧ Below w.heap.size w w' := by
  have HA := Lib.hid (fun w => awake_any w)
  have h1 := fun W => lex_any s W (by omega)
  obtain ⟨Q, hQ, hQ3, hok, han⟩ := ans_good hc
  have hend := lex_end Q.length Q (1, 1) (Nat.le_refl _) hok
  have hst := st_start hok
  rw [han] at h1
  have hE : ∀ W, Calls Try.prog 13 #[.string s] W fun e w' => e = .returned (plV (lex (1, 1) Q).2.1) ∧ Below W.heap.size W w' := fun W => by
    have := end_any s W (by omega)
    rwa [told_runes _ _ Q (Nat.le_refl _) hQ, ← hend] at this
  have hll : (lex (1, 1) Q).1.length ≤ 100000 := by
    have h1 := (lex_tells Q.length Q (1, 1) (Nat.le_refl _)).2
    have h2 := again_len (lex (1, 1) Q).1
    omega
  generalize (lex (1, 1) Q).2.1 = pe at *
  generalize (lex (1, 1) Q).1 = l at *
  have H1 := Lib.hid h1
  have HE := Lib.hid hE
  have HQ := Lib.hid (And.intro hQ hQ3)
  have HS := Lib.hid hst
  have HL := Lib.hid (fun (x : ByteArray) (hx : x.size ≤ 4000) W => lex_any x W (by omega))
  have HN := Lib.hid (fun (x : ByteArray) (hx : x.size ≤ 4000) W => end_any x W (by omega))
  clear h1 hc hok han hend hst hE hQ hQ3
  go_enter Try.func5, Try.ntmps5
  go_wp2_with fail
  refine (HA.out _).mono ?_
  rintro e w1 ⟨rfl, b1⟩
  go_wp2_with fail
  refine (H1.out _).mono ?_
  rintro e w2 ⟨v2, rfl, o2, b2⟩
  replace b2 := b1.trans (b2.mono b1.size)
  obtain ⟨ao, ac, rfl⟩ := own_slice o2
  have hT := ToksAt.of o2
  have al := (Below.refl w2.heap.size w2).alloc (Nat.le_refl _) (.cells #[.int .i64 (pe.1 : Nat), .int .i64 (pe.2 : Nat)] 25)
  have HM := Lib.hid (And.intro (hT.on al) (And.intro (b2.trans (al.mono b2.size)) (PlB.new w2 pe)))
  clear o2 b1 hT al b2 H1 HA
  unfold plV
  go_wp2_with fail
  generalize w2.alloc (.cells #[.int .i64 (pe.1 : Nat), .int .i64 (pe.2 : Nat)] 25) = w3 at *
  generalize hP : w2.heap.size = P at *
  go_loopg [6, 35] l.length (fun n x i wr => ∃ (j a : Nat), j + n = l.length ∧ i = .int .i64 (j : Nat) ∧ x = .int .i64 ((Gly.pre a s.data.toList : Nat) : Int) ∧ Hid (St Q l pe a j) ∧ Hid (Below w3.heap.size w3 wr))
  case atStart => exact ⟨0, 0, by omega, rfl, rfl, HS, Lib.hid (Below.refl _ _)⟩
  case round =>
    clear HS
    obtain ⟨j, a, hj, rfl, rfl, HJ, HB⟩ := hrel
    by_cases hlt : j < l.length
    · obtain ⟨k, a', k1, k2, k3, k4, k5, k6, k7, k8, k9, k10⟩ := st_step HQ.out.1 HQ.out.2 HJ.out hlt
      obtain ⟨g, rfl, hg, c0, c1, c2, c3⟩ := (HM.out.1.on HB.out) j hlt
      have hix := fun W => index_tok (g := g) (n := l.length) (cap := ac) hlt W
      rw [← Lib.size_eq] at k2
      generalize hat : Gly.pre a s.data.toList = at0 at *
      have HAT := Lib.hid hat
      have HK := Lib.hid (And.intro k4 (And.intro k5 (And.intro k6 (And.intro k7 (And.intro k8 (And.intro k9 k10))))))
      clear k4 k5 k6 k7 k8 k9 k10 hat HJ
      generalize l[j] = t at *
      have htx : (txt t.text).size = t.text.length := txt_size _
      go_upto_region 10 with fail
      have al := (Below.refl wr.heap.size wr).alloc (Nat.le_refl _) (.cells #[.int .i64 t.kind, .string (txt t.text), .int .i64 (t.at'.1 : Nat), .int .i64 (t.at'.2 : Nat)] 33)
      have hnew : TkB wr.heap.size t (wr.alloc (.cells #[.int .i64 t.kind, .string (txt t.text), .int .i64 (t.at'.1 : Nat), .int .i64 (t.at'.2 : Nat)] 33)) := heap_alloc_new wr _
      have HX := Lib.hid (And.intro hnew (HB.out.trans (al.mono HB.out.size)))
      clear al hnew HB c0 c1 c2 c3 hix hg
      generalize wr.alloc (.cells #[.int .i64 t.kind, .string (txt t.text), .int .i64 (t.at'.1 : Nat), .int .i64 (t.at'.2 : Nat)] 33) = x0 at *
      generalize wr.heap.size = R at *
      obtain ⟨G, hG⟩ : ∃ G, G = gk := ⟨_, rfl⟩
      have hG1 : j + G = l.length := by omega
      have hne1 : (txt t.text).toList.isEmpty = false := by
        rw [Lib.toList_data, txt_list]
        cases h : t.text with
        | nil => rw [h] at k3; simp at k3
        | cons a b => rfl
      have hne2 : ((txt t.text).toList == []) = false := by
        rw [Lib.toList_data, txt_list]
        cases h : t.text with
        | nil => rw [h] at k3; simp at k3
        | cons a b => rfl
      have HNE := Lib.hid (And.intro hne1 hne2)
      clear hne1 hne2
      generalize htt : txt t.text = tx at *
      have HTT := Lib.hid htt
      clear htt
      generalize hn : t.text.length = n at *
      have HNN := Lib.hid hn
      clear hn
      go_wp2_with fail
      go_loopg [9, 10] (k + 2 - at0) (fun m v i wi => ∃ (iv : Nat) (vz : Int), v = .int .i64 vz ∧ i = .int .i64 (iv : Nat) ∧ iv ≤ k + 1 ∧ Hid ((vz = -1 ∧ at0 ≤ iv ∧ iv ≤ k ∧ m + iv = k + 2) ∨ (vz = (k : Int) ∧ m = 1)) ∧ Hid (Below x0.heap.size x0 wi))
      case atStart => exact ⟨at0, -1, rfl, rfl, by omega, Lib.hid (.inl ⟨rfl, by omega, k1, by omega⟩), Lib.hid (Below.refl _ _)⟩
      case round =>
        obtain ⟨iv, vz, rfl, rfl, hiv, HV, HW⟩ := hrel
        obtain ⟨-, d1, d2, d3⟩ := (HX.out.1.on HW.out).cells
        rw [Nat.zero_add] at d1 d2 d3
        rw [HTT.out] at d1
        rcases HV.out with ⟨rfl, h1, h2, h3⟩ | ⟨rfl, h3⟩
        · have hsl : ∀ W, (Instr.slice 9 (.string s) (some (.int .i64 (iv : Nat))) (some (.int .i64 ((iv : Int) + (n : Int)))) none).run Try.prog W = .ok (.string (s.extract iv (iv + n))) W := fun W => by
            rw [← Int.natCast_add, run_slice_string W 9 s .i64 .i64 (iv : Int) ((iv + n : Nat) : Int) Try.underlying9 (by omega) (by omega) (by omega), Int.toNat_natCast, Int.toNat_natCast]
          have hwr : IntKind.i64.wrap ((iv : Int) + (n : Int)) = (iv : Int) + (n : Int) := by rw [IntKind.wrap_i64]; omega
          have hle : decide ((iv : Int) + (n : Int) ≤ (s.size : Int)) = true := by simp; omega
          have hxl : (s.extract iv (iv + n)).data.toList = (s.data.toList.drop iv).take n := by rw [ext_list, Nat.add_sub_cancel_left]
          by_cases hm : (s.data.toList.drop iv).take n = t.text.map Nat.toUInt8
          · have hXt : ((s.extract iv (iv + n)).toList == tx.toList) = true := by
              rw [Lib.toList_data, Lib.toList_data, hxl, ← HTT.out, txt_list, hm]; simp
            have hivs : iv ≤ s.size := by omega
            have hs0 : ∀ W, (Instr.slice 9 (.string s) none (some (.int .i64 (iv : Nat))) none).run Try.prog W = .ok (.string (s.extract 0 iv)) W := fun W => by
              go_simp
              try rfl
            have hNE := fun W => HN.out (s.extract 0 iv) (ext_size hs) W
            rw [show (s.extract 0 iv).data.toList = s.data.toList.take iv by rw [ext_list]; simp] at hNE
            have hpl : (iv = k ∧ behinds (1, 1) (told (s.data.toList.take iv)) = t.at') ∨ (iv < k ∧ behinds (1, 1) (told (s.data.toList.take iv)) ≠ t.at') := by
              by_cases hk : iv = k
              · exact .inl ⟨hk, by rw [hk]; exact HK.out.2.2.1⟩
              · refine .inr ⟨by omega, ?_⟩
                rcases HK.out.1 iv h1 (by omega) with h | h
                · exact absurd hm h
                · exact h
            generalize behinds (1, 1) (told (s.data.toList.take iv)) = pl at *
            have HNE2 := Lib.hid hNE
            have HC := Lib.hid (show ∀ x, Below wr.heap.size wr.drew x → x.cell? ⟨R, 1, none⟩ = some (.string tx) ∧ x.cell? ⟨R, 2, none⟩ = some (.int .i64 (t.at'.1 : Nat)) ∧ x.cell? ⟨R, 3, none⟩ = some (.int .i64 (t.at'.2 : Nat)) from fun x hx => by
              obtain ⟨-, f1, f2, f3⟩ := ((HX.out.1.on HW.out).on ((Below.refl _ _).drew.trans hx)).cells
              rw [Nat.zero_add] at f1 f2 f3
              rw [HTT.out] at f1
              exact ⟨f1, f2, f3⟩)
            generalize s.extract iv (iv + n) = X at *
            generalize s.extract 0 iv = Y at *
            clear hxl hm HV hNE
            rcases hpl with ⟨hk, rfl⟩ | ⟨hk, hpn⟩
            · have heq := pl_eq t.at'
              subst hk
              go_upto_region 14 with fail
              clear d1 d2 d3
              refine Order.region_begin (S := Below wr.heap.size wr.drew) (by kernel_rfl) ?_
              refine Order.reads_any (idx := [0, 1, 2, 3, 4, 5, 6, 7, 8, 9, 10, 11, 12, 13, 14, 16, 17]) (by kernel_rfl) (Below.refl _ _) (fun _ _ _ _ _ h => Order.noPanic_put h) 3 _ _ (by decide +kernel) ?_
              simp only [Order.pick, List.getElem?_toArray, List.getElem?_cons_zero, List.getElem?_cons_succ]
              repeat (first
                | (refine Order.reads_off (by rfl) ?_
                   simp only [Act.put, List.setIfInBounds_toArray, List.set_cons_zero, List.set_cons_succ])
                | (apply Order.reads_on
                   · rfl
                   · intro x hx
                     first
                       | (go_simp; rfl)
                       | (obtain ⟨f1, f2, f3⟩ := HC.out x hx
                          go_simp; rfl)
                   simp only [Act.put, List.setIfInBounds_toArray, List.set_cons_zero, List.set_cons_succ]))
              refine Order.reads_end ?_
              apply Order.acts_any (R := Below wr.heap.size) (fun h k => h.trans k) (i := 15)
              · rfl
              · decide +kernel
              · rfl
              unfold Oper.wp
              go_simp
              refine Calls.mono (HNE2.out _) ?_
              rintro e w5 ⟨rfl, b5⟩
              refine ⟨b5, ?_⟩
              have H5 := Lib.hid (HW.out.trans (((Below.refl wr.heap.size wr).drew.trans b5).mono HW.out.size))
              clear b5 HC HNE2
              unfold plV
              refine Order.reads_any (idx := [18, 19]) (by kernel_rfl) (Below.refl _ _) (fun _ _ _ _ _ h => Order.noPanic_put h) 0 _ _ (by decide +kernel) ?_
              simp only [Order.pick, List.getElem?_toArray, List.getElem?_cons_zero, List.getElem?_cons_succ]
              repeat (first
                | (refine Order.reads_off (by rfl) ?_
                   simp only [Act.put, List.setIfInBounds_toArray, List.set_cons_zero, List.set_cons_succ])
                | (apply Order.reads_on
                   · rfl
                   · intro x hx
                     first
                       | (go_simp; rfl)
                       | (fail
                          go_simp; rfl)
                   simp only [Act.put, List.setIfInBounds_toArray, List.set_cons_zero, List.set_cons_succ]))
              refine Order.reads_end ?_
              refine wpAnyH_done (by decide +kernel) ?_ _
              refine NoPanic.normal ?_
              go_wp2_with fail
              go_roundg 1
              case rel => exact ⟨iv + 1, (iv : Int), rfl, by go_num, by omega, Lib.hid (.inr ⟨rfl, rfl⟩), H5⟩
              case measure => omega
            · have heq := pl_ne hpn
              clear hpn
              go_upto_region 14 with fail
              clear d1 d2 d3
              refine Order.region_begin (S := Below wr.heap.size wr.drew) (by kernel_rfl) ?_
              refine Order.reads_any (idx := [0, 1, 2, 3, 4, 5, 6, 7, 8, 9, 10, 11, 12, 13, 14, 16, 17]) (by kernel_rfl) (Below.refl _ _) (fun _ _ _ _ _ h => Order.noPanic_put h) 3 _ _ (by decide +kernel) ?_
              simp only [Order.pick, List.getElem?_toArray, List.getElem?_cons_zero, List.getElem?_cons_succ]
              repeat (first
                | (refine Order.reads_off (by rfl) ?_
                   simp only [Act.put, List.setIfInBounds_toArray, List.set_cons_zero, List.set_cons_succ])
                | (apply Order.reads_on
                   · rfl
                   · intro x hx
                     first
                       | (go_simp; rfl)
                       | (obtain ⟨f1, f2, f3⟩ := HC.out x hx
                          go_simp; rfl)
                   simp only [Act.put, List.setIfInBounds_toArray, List.set_cons_zero, List.set_cons_succ]))
              refine Order.reads_end ?_
              apply Order.acts_any (R := Below wr.heap.size) (fun h k => h.trans k) (i := 15)
              · rfl
              · decide +kernel
              · rfl
              unfold Oper.wp
              go_simp
              refine Calls.mono (HNE2.out _) ?_
              rintro e w5 ⟨rfl, b5⟩
              refine ⟨b5, ?_⟩
              have H5 := Lib.hid (HW.out.trans (((Below.refl wr.heap.size wr).drew.trans b5).mono HW.out.size))
              clear b5 HC HNE2
              unfold plV
              refine Order.reads_any (idx := [18, 19]) (by kernel_rfl) (Below.refl _ _) (fun _ _ _ _ _ h => Order.noPanic_put h) 0 _ _ (by decide +kernel) ?_
              simp only [Order.pick, List.getElem?_toArray, List.getElem?_cons_zero, List.getElem?_cons_succ]
              repeat (first
                | (refine Order.reads_off (by rfl) ?_
                   simp only [Act.put, List.setIfInBounds_toArray, List.set_cons_zero, List.set_cons_succ])
                | (apply Order.reads_on
                   · rfl
                   · intro x hx
                     first
                       | (go_simp; rfl)
                       | (fail
                          go_simp; rfl)
                   simp only [Act.put, List.setIfInBounds_toArray, List.set_cons_zero, List.set_cons_succ]))
              refine Order.reads_end ?_
              refine wpAnyH_done (by decide +kernel) ?_ _
              refine NoPanic.normal ?_
              go_wp2_with fail
              go_roundg (gk - 1)
              case rel => exact ⟨iv + 1, -1, rfl, by go_num, by omega, Lib.hid (.inl ⟨rfl, by omega, by omega, by omega⟩), H5⟩
              case measure => omega
          · have hXt : ((s.extract iv (iv + n)).toList == tx.toList) = false := by
              rw [Lib.toList_data, Lib.toList_data, hxl, ← HTT.out, txt_list]; simpa using hm
            have hivk : iv ≠ k := by
              rintro rfl
              exact hm HK.out.2.1
            generalize s.extract iv (iv + n) = X at *
            clear hxl hm HV
            go_wp2_with fail
            go_quiet (fail)
            go_wp2_with fail
            go_roundg (gk - 1)
            case rel => exact ⟨iv + 1, -1, rfl, by go_num, by omega, Lib.hid (.inl ⟨rfl, by omega, by omega, by omega⟩), Lib.hid (below_drewN HW.out _)⟩
            case measure => omega
        · clear HV
          go_upto_region 12 with fail
          go_cut [51] (fun v wx => v = .bool false ∧ wr = wx)
          case first =>
            have hwr : IntKind.i64.wrap ((iv : Int) + (n : Int)) = (iv : Int) + (n : Int) := by rw [IntKind.wrap_i64]; omega
            cases hb : decide ((iv : Int) + (n : Int) ≤ (s.size : Int)) with
            | true =>
              go_wp2_with fail
              go_meet
              exact ⟨rfl, rfl⟩
            | false =>
              go_wp2_with fail
              go_meet
              exact ⟨rfl, rfl⟩
          obtain ⟨rfl, rfl⟩ := hcut
          obtain ⟨hne1, hne2⟩ := HNE.out
          have hs1 : at0 ≤ s.size := by omega
          have hs2 : k ≤ s.size := by omega
          have hsl : ∀ W, (Instr.slice 9 (.string s) (some (.int .i64 (at0 : Nat))) (some (.int .i64 (k : Nat))) none).run Try.prog W = .ok (.string (s.extract at0 k)) W := fun W => by
            rw [run_slice_string W 9 s .i64 .i64 (at0 : Int) (k : Int) Try.underlying9 (by omega) (by omega) (by omega), Int.toNat_natCast, Int.toNat_natCast]
          have hly := fun W => HL.out (s.extract at0 k) (ext_size hs) W
          rw [ext_list] at hly
          have hl0 := HK.out.2.2.2.1
          have hl1 := HK.out.2.2.2.2.1
          have hl2 := HK.out.2.2.2.2.2
          generalize ans (Gly.runes ((s.data.toList.drop at0).take (k - at0))) = an at *
          obtain ⟨code, pg, tk⟩ := an
          simp only at hl0 hl1
          subst hl0 hl1
          have HLY := Lib.hid hly
          have HZ := Lib.hid hl2
          generalize s.extract at0 k = Y at *
          clear hly hl2 HK
          go_wp2_with fail
          refine (HLY.out _).mono ?_
          rintro e w6 ⟨v6, rfl, o6, b6⟩
          obtain ⟨ro, rc, rfl⟩ := own_slice o6
          have e1 := (HX.out.1.on HW.out).on b6
          obtain ⟨-, f1, -, -⟩ := e1.cells
          rw [Nat.zero_add, HTT.out] at f1
          have hRw := e1.lt
          have HY := Lib.hid ((HX.out.2.trans ((HW.out.trans (b6.mono HW.out.size)).mono HX.out.2.size)).alloc (Nat.le_trans HX.out.2.size (Nat.le_trans HW.out.size b6.size)) (.cells #[.int .i64 (pg.1 : Nat), .int .i64 (pg.2 : Nat)] 25))
          have hnR : ¬ R = w6.heap.size := by omega
          have hwk : IntKind.i64.wrap ((k : Int) + (n : Int)) = (k : Int) + (n : Int) := by rw [IntKind.wrap_i64]; omega
          clear o6 b6 e1 hne1 hne2
          unfold plV
          go_wp2_with fail
          go_roundg (G - 1)
          case rel => exact ⟨j + 1, a', by omega, by go_num, by rw [← HZ.out.1]; go_num, Lib.hid HZ.out.2, HY⟩
          case measure => omega
    · obtain rfl : j = l.length := by omega
      have hla := st_last HQ.out.1 HQ.out.2 HJ.out
      have hpl := Gly.pre_le a s.data.toList
      rw [← Lib.size_eq] at hpl
      generalize Gly.pre a s.data.toList = at0 at *
      have hsl : ∀ W, (Instr.slice 9 (.string s) (some (.int .i64 (at0 : Nat))) none none).run Try.prog W = .ok (.string (s.extract at0 s.size)) W := fun W => by
        go_simp
        try rfl
      have hly := fun W => HL.out (s.extract at0 s.size) (ext_size hs) W
      rw [Gl.extract_list] at hly
      obtain ⟨hl0, hl1⟩ := hla
      generalize ans (Gly.runes (s.data.toList.drop at0)) = an at *
      obtain ⟨code, pg, tk⟩ := an
      simp only at hl0 hl1
      subst hl0 hl1
      have HLY := Lib.hid hly
      have HP := Lib.hid (show PlB P pe wr from HM.out.2.2.on HB.out)
      generalize s.extract at0 s.size = Y at *
      clear hly HJ
      go_wp2_with fail
      refine (HLY.out _).mono ?_
      rintro e w6 ⟨v6, rfl, o6, b6⟩
      obtain ⟨ro, rc, rfl⟩ := own_slice o6
      have al := (Below.refl w6.heap.size w6).alloc (Nat.le_refl _) (.cells #[.int .i64 (pg.1 : Nat), .int .i64 (pg.2 : Nat)] 25)
      have HY := Lib.hid (And.intro ((HP.out.on b6).on al) (HM.out.2.1.trans ((HB.out.trans ((b6.trans (al.mono b6.size)).mono HB.out.size)).mono HM.out.2.1.size)))
      clear o6 b6 al
      unfold plV
      go_upto_region 24 with fail
      generalize w6.alloc (.cells #[.int .i64 (pg.1 : Nat), .int .i64 (pg.2 : Nat)] 25) = w7 at *
      have HC := Lib.hid (show ∀ x, Below w7.heap.size w7.drew x → x.cell? ⟨P, 0, none⟩ = some (.int .i64 (pe.1 : Nat)) ∧ x.cell? ⟨P, 1, none⟩ = some (.int .i64 (pe.2 : Nat)) from fun x hx => (HY.out.1.on ((Below.refl _ _).drew.trans hx)).cells)
      have heq := pl_eq pe
      refine Order.region_begin (S := Below w7.heap.size w7.drew) (by kernel_rfl) ?_
      refine Order.reads_any (idx := [0, 1, 2, 3, 4, 5, 6, 7, 8, 9]) (by kernel_rfl) (Below.refl _ _) (fun _ _ _ _ _ h => Order.noPanic_put h) 4 _ _ (by decide +kernel) ?_
      simp only [Order.pick, List.getElem?_toArray, List.getElem?_cons_zero, List.getElem?_cons_succ]
      repeat (first
        | (refine Order.reads_off (by rfl) ?_
           simp only [Act.put, List.setIfInBounds_toArray, List.set_cons_zero, List.set_cons_succ])
        | (apply Order.reads_on
           · rfl
           · intro x hx
             first
               | (go_simp; rfl)
               | (obtain ⟨f1, f2⟩ := HC.out x hx
                  go_simp; rfl)
           simp only [Act.put, List.setIfInBounds_toArray, List.set_cons_zero, List.set_cons_succ]))
      refine Order.reads_end ?_
      apply Order.acts_any (R := Below w7.heap.size) (fun h k => h.trans k) (i := 10)
      · rfl
      · decide +kernel
      · rfl
      unfold Oper.wp
      go_simp
      refine Calls.mono (HE.out _) ?_
      rintro e w8 ⟨rfl, b8⟩
      refine ⟨b8, ?_⟩
      have H8 := Lib.hid (HY.out.2.trans (((Below.refl w7.heap.size w7).drew.trans b8).mono HY.out.2.size))
      clear b8 HC
      unfold plV
      refine Order.reads_any (idx := [11, 12, 13]) (by kernel_rfl) (Below.refl _ _) (fun _ _ _ _ _ h => Order.noPanic_put h) 0 _ _ (by decide +kernel) ?_
      simp only [Order.pick, List.getElem?_toArray, List.getElem?_cons_zero, List.getElem?_cons_succ]
      repeat (first
        | (refine Order.reads_off (by rfl) ?_
           simp only [Act.put, List.setIfInBounds_toArray, List.set_cons_zero, List.set_cons_succ])
        | (apply Order.reads_on
           · rfl
           · intro x hx
             first
               | (go_simp; rfl)
               | (fail
                  go_simp; rfl)
           simp only [Act.put, List.setIfInBounds_toArray, List.set_cons_zero, List.set_cons_succ]))
      refine Order.reads_end ?_
      refine wpAnyH_done (by decide +kernel) ?_ _
      refine NoPanic.normal ?_
      go_wp2_with fail
      go_ret
      exact ⟨rfl, H8.out⟩

theorem walk (s : ByteArray) (w : World) (hs : s.size ≤ maxLen) :
    Calls Try.prog 5 #[.string s] w fun e w' => e = .returned (.bool true) ∧ Below w.heap.size w w' := by
  by_cases h : 4000 < s.size
  · exact long s w hs h
  · by_cases hc : (ans (Gly.runes s.data.toList)).1 = 0
    · exact good s w (by omega) hc
    · exact bad s w (by omega) hc
end LawS6Places
end Go.Proofs.Ytjddojpmgdnicaa
