/-
  The statement SigilBlanks at every two texts, and every gap.
-/
import Derived.Test.YtjddojpmgdnicaaSgO
import Derived.Test.YtjddojpmgdnicaaSgM
namespace Go.Proofs.Ytjddojpmgdnicaa
open Go.RowKit
namespace LawS6Blanks
open Sg
open Tr (own_slice own_below IsElem append_rows append_none)

/-- The gaps' texts. -/
def gapS (i : Nat) : ByteArray := match i with
  | 0 => ⟨#[10]⟩
  | 1 => ⟨#[32, 227, 128, 128]⟩
  | 2 => ⟨#[47, 47, 120, 10]⟩
  | _ => ⟨#[9, 13]⟩
theorem gap_runes : ∀ i, i < 4 → ∃ g, g ∈ gaps ∧ Gly.runes (gapS i).data.toList = some g ∧ g.length ≤ 4
  | 0, _ => ⟨[10], by simp [gaps], runes_low [10] (by decide), by simp⟩
  | 1, _ => by
    refine ⟨[32, 12288], by simp [gaps], ?_, by simp⟩
    have h1 : Gly.runes [(32 : UInt8)] = some [32] := runes_low [32] (by decide)
    have h2 : Gly.runes [(227 : UInt8), 128, 128] = some [12288] := by
      have hd : Gly.dec [(227 : UInt8), 128, 128] = (12288, 3) := by decide
      rw [Gly.runes_step (by simp) (by rw [Gly.bad, hd]; decide), hd]
      simp [Gly.runes_nil]
    show Gly.runes ([32] ++ [(227 : UInt8), 128, 128]) = _
    rw [runes_join h1, h2]; rfl
  | 2, _ => ⟨[47, 47, 120, 10], by simp [gaps], runes_low [47, 47, 120, 10] (by decide), by simp⟩
  | 3, _ => ⟨[9, 13], by simp [gaps], runes_low [9, 13] (by decide), by simp⟩
theorem last_join : ∀ (k : Nat) (a : List UInt8) (q : List Nat), a.length ≤ k → Gly.runes (a ++ [10]) = some q → q.getLast? = some 10
  | k, a, q, hk, h => by
    by_cases ha : a = []
    · subst ha
      rw [show ([] : List UInt8) ++ [10] = [10] from rfl, runes_low [10] (by decide)] at h
      cases h; rfl
    · have hne : a ++ [10] ≠ [] := by simp
      have hb := Gly.runes_good h hne
      have hw := Gly.dec_width _ hne
      have hpos := List.length_pos_iff.2 ha
      rw [List.length_append, List.length_cons, List.length_nil] at hw
      have hlast : Gly.byte (a ++ [10]) a.length = 10 := by
        unfold Gly.byte
        rw [List.getD, List.getElem?_append_right (Nat.le_refl _)]
        simp
      have hwa : (Gly.dec (a ++ [10])).2 ≤ a.length := by
        apply Classical.byContradiction
        intro hgt
        have hw2 : (Gly.dec (a ++ [10])).2 = a.length + 1 := by omega
        rcases Gly.dec_cases _ hne with ⟨_, e⟩ | ⟨_, _, _, c1, _, e⟩ | ⟨_, _, _, c1, c2, _, _, e⟩ | ⟨_, _, _, c1, c2, c3, _, _, e⟩ | ⟨_, e⟩
        · rw [e] at hw2; simp only at hw2; omega
        · rw [e] at hw2; simp only at hw2
          rw [show a.length = 1 by omega] at hlast; rw [hlast] at c1; omega
        · rw [e] at hw2; simp only at hw2
          rw [show a.length = 2 by omega] at hlast; rw [hlast] at c2; omega
        · rw [e] at hw2; simp only at hw2
          rw [show a.length = 3 by omega] at hlast; rw [hlast] at c3; omega
        · rw [Gly.bad, e] at hb; simp at hb
      obtain ⟨k, rfl⟩ : ∃ j, k = j + 1 := ⟨k - 1, by omega⟩
      rw [Gly.runes_step hne hb, List.drop_append_of_le_length hwa] at h
      cases hu : Gly.runes (a.drop (Gly.dec (a ++ [10])).2 ++ [10]) with
      | none => rw [hu] at h; cases h
      | some u =>
        rw [hu] at h; cases h
        have hl := last_join k _ u (by rw [List.length_drop]; omega) hu
        cases u with
        | nil => cases hl
        | cons x v => rw [List.getLast?_cons_cons]; exact hl

theorem toks_join {w : World} (ty : TypeId) {B C : Nat} {v u : Value} {la lb : List Tok} (h1 : w.ownsRow B 33 4 v la.length (toksC la)) (h2 : w.ownsRow C 33 4 u lb.length (toksC lb)) (hB : B ≤ w.heap.size) (hz : la.length + lb.length ≤ 100000) :
    ∃ v' y, (Builtin.append_ #[23, 23] ty #[v, u]).run Try.prog w = .ok v' y ∧ y.ownsRow B 33 4 v' (la ++ lb).length (toksC (la ++ lb)) ∧ Below B w y := by
  obtain ⟨ti, tz, tb', T, hT⟩ := toks_elem
  have happ : toksC (la ++ lb) = toksC la ++ toksC lb := by simp [toksC]
  rcases h2.2 with ⟨rfl, h0⟩ | ⟨g, cap, cur, rfl, hbg, hg, hnc, hcm, hcs, htake⟩
  · have hnil : lb = [] := List.eq_nil_of_length_eq_zero h0
    subst hnil
    refine ⟨v, w, append_none T ty h1 (by omega), ?_, Below.refl _ _⟩
    rw [List.append_nil]
    exact h1
  · have hone : ∀ u ∈ toksC lb, u.oneCell' = true := by
      intro u hu
      rw [toksC, List.mem_flatMap] at hu
      obtain ⟨r, -, hu⟩ := hu
      simp [tokC] at hu
      rcases hu with rfl | rfl | rfl | rfl <;> rfl
    obtain ⟨v', y, hr, ho, hgr, -⟩ := append_rows T ty h1 hB (toksC_len lb) (h2.cells (g := g) rfl) hone (by omega) (Nat.le_trans (Nat.mul_le_mul_left _ hT) (by omega)) (c := cap)
    refine ⟨v', y, hr, ?_, (Below.refl _ _).grown hgr hB fun k hk => (h1.lt k hk).1⟩
    rw [List.length_append, happ]
    exact ho
/-- For the walk: tokens behind tokens. -/
theorem walk_join {ops : Array Oper} {Q : Exit → Act → World → Prop} {o : Oper} {rest : List Oper} {a : Act} {w : World} (hgd : o.guard = none) (s x : Operand) (ho : o.op = .call { callee := .builtin .append, args := #[s, x], argTypes := #[23, 23] })
    {B C : Nat} {v u : Value} {la lb : List Tok} (hs : a.eval s = v) (hx : a.eval x = u) (h1 : w.ownsRow B 33 4 v la.length (toksC la)) (h2 : w.ownsRow C 33 4 u lb.length (toksC lb)) (hB : B ≤ w.heap.size) (hz : la.length + lb.length ≤ 100000)
    (h : ∀ v' y, y.ownsRow B 33 4 v' (la ++ lb).length (toksC (la ++ lb)) → Below B w y → wpList Try.prog ops Q rest (a.put o.dst v') y) : wpList Try.prog ops Q (o :: rest) a w := by
  refine wpList_plain hgd fun K hK => ?_
  obtain ⟨v', y, hr, h3, h4⟩ := toks_join o.type h1 h2 hB hz
  unfold Oper.wp execOp
  simp only [ho, resolve, invoke, builtin, Sem.run_bind, Sem.run_pure, Result.andThen_ok, List.map_toArray, List.map_cons, List.map_nil, hs, hx, hr]
  exact hK _ _ (h v' y h3 h4)
theorem empty_build (W : World) : (Instr.buildSlice 23 0 #[]).run Try.prog W = .ok (.slice (some ⟨W.heap.size, 0, none⟩) 0 0) (W.alloc (.cells #[] 33)) := by kernel_rfl
theorem empty_own (W : World) : (W.alloc (.cells #[] 33)).ownsRow W.heap.size 33 4 (.slice (some ⟨W.heap.size, 0, none⟩) 0 0) ([] : List Tok).length (toksC []) :=
  ⟨rfl, .inr ⟨W.heap.size, 0, _, rfl, Nat.le_refl _, heap_alloc_new W _, Nat.le_refl _, by unfold maxLen; omega, rfl, rfl⟩⟩
theorem gap_index (i : Nat) (hi : i < 4) (W : World) : (Instr.index 43 (.agg #[.string ⟨#[10]⟩, .string ⟨#[32, 227, 128, 128]⟩, .string ⟨#[47, 47, 120, 10]⟩, .string ⟨#[9, 13]⟩]) (.int .u8 (i : Nat))).run Try.prog W = .ok (.string (gapS i)) W := by
  obtain rfl | rfl | rfl | rfl : i = 0 ∨ i = 1 ∨ i = 2 ∨ i = 3 := by omega
  · kernel_rfl
  · kernel_rfl
  · kernel_rfl
  · kernel_rfl

/-- What the three calls answer where the first two answer without an error. -/
theorem three {s t G : ByteArray} {g : List Nat} (hs : s.size ≤ 1000) (ht : t.size ≤ 1000) (hg : g ∈ gaps) (hG : Gly.runes G.data.toList = some g) (hgl : g.length ≤ 4)
    (hA : (ans (Gly.runes (s ++ ⟨#[10]⟩ : ByteArray).data.toList)).1 = 0) (hB : (ans (Gly.runes t.data.toList)).1 = 0) :
    (ans (Gly.runes ((s ++ ⟨#[10]⟩ : ByteArray) ++ G ++ t).data.toList)).1 = 0 ∧
      kt (ans (Gly.runes ((s ++ ⟨#[10]⟩ : ByteArray) ++ G ++ t).data.toList)).2.2 = kt (ans (Gly.runes (s ++ ⟨#[10]⟩ : ByteArray).data.toList)).2.2 ++ kt (ans (Gly.runes t.data.toList)).2.2 ∧
      (ans (Gly.runes (s ++ ⟨#[10]⟩ : ByteArray).data.toList)).2.2.length ≤ 2002 ∧ (ans (Gly.runes t.data.toList)).2.2.length ≤ 2000 := by
  have e1 : (s ++ ⟨#[10]⟩ : ByteArray).data.toList = s.data.toList ++ [10] := by rw [ByteArray.data_append]; simp
  have e3 : ((s ++ ⟨#[10]⟩ : ByteArray) ++ G ++ t).data.toList = (s.data.toList ++ [10]) ++ (G.data.toList ++ t.data.toList) := by
    rw [ByteArray.data_append, ByteArray.data_append, ByteArray.data_append]; simp
  rw [e1] at hA
  rw [e3, e1]
  obtain ⟨q, hq, -, hok, han⟩ := ans_good hA
  obtain ⟨q2, hq2, -, hok2, han2⟩ := ans_good hB
  have hlast := last_join _ _ _ (Nat.le_refl _) hq
  have hr : Gly.runes ((s.data.toList ++ [10]) ++ (G.data.toList ++ t.data.toList)) = some (q ++ (g ++ q2)) := by
    rw [runes_join hq, runes_join hG, hq2]; rfl
  have hl1 := Gly.runes_len _ _ (Nat.le_refl _) q hq
  have hl2 := Gly.runes_len _ _ (Nat.le_refl _) q2 hq2
  rw [List.length_append, ← Lib.size_eq] at hl1
  rw [← Lib.size_eq] at hl2
  simp only [List.length_cons, List.length_nil] at hl1
  obtain ⟨h1, h2⟩ := lex_three (p := (1, 1)) hlast hg hok hok2
  rw [hr, ans_zero (by rw [List.length_append, List.length_append]; omega) h2, han, han2]
  have n1 := (lex_tells q.length q (1, 1) (Nat.le_refl _)).2
  have n2 := (lex_tells q2.length q2 (1, 1) (Nat.le_refl _)).2
  have n3 := again_len (lex (1, 1) q).1
  have n4 := again_len (lex (1, 1) q2).1
  exact ⟨rfl, h1, by simp only; omega, by simp only; omega⟩

set_option maxHeartbeats 4000000 in
set_option maxRecDepth 100000 in
theorem long (s t : ByteArray) (c : Int) (w : World) (hs : s.size ≤ maxLen) (ht : t.size ≤ maxLen) (h : 1000 < s.size ∨ 1000 < t.size) :
    Calls Try.prog 6 #[.string s, .string t, .int .u8 c] w fun e w' => e = .returned (.bool true) ∧ Below w.heap.size w w' := by
  unfold maxLen at hs ht
  have HA := Lib.hid (fun w => awake_any w)
  by_cases h1 : 1000 < s.size
  · clear h
    go_enter Try.func6, Try.ntmps6
    go_wp2_with fail
    refine (HA.out _).mono ?_
    rintro e w1 ⟨rfl, b1⟩
    go_wp2_with fail
    refine (HA.out _).mono ?_
    rintro e w2 ⟨rfl, b2⟩
    replace b2 := b1.trans (b2.mono b1.size)
    go_wp2
    go_ret
    exact ⟨rfl, b2⟩
  · have h2 : 1000 < t.size := by omega
    clear h
    go_enter Try.func6, Try.ntmps6
    go_wp2_with fail
    refine (HA.out _).mono ?_
    rintro e w1 ⟨rfl, b1⟩
    go_wp2_with fail
    refine (HA.out _).mono ?_
    rintro e w2 ⟨rfl, b2⟩
    replace b2 := b1.trans (b2.mono b1.size)
    go_wp2
    go_ret
    exact ⟨rfl, b2⟩

set_option maxHeartbeats 8000000 in
set_option maxRecDepth 100000 in
theorem short (s t : ByteArray) (c : Int) (w : World) (hs : s.size ≤ 1000) (ht : t.size ≤ 1000) (hc : 0 ≤ c ∧ c ≤ 255) :
    Calls Try.prog 6 #[.string s, .string t, .int .u8 c] w fun e w' => e = .returned (.bool true) ∧ Below w.heap.size w w' := by
  have HA := Lib.hid (fun w => awake_any w)
  obtain ⟨i, hi⟩ : ∃ i, i = (c % 4).toNat := ⟨_, rfl⟩
  have hi4 : i < 4 := by omega
  have hci : c % 4 = (i : Int) := by omega
  have hgx := gap_index i hi4
  obtain ⟨g, hg, hgr, hgl⟩ := gap_runes i hi4
  have hgs : (gapS i).size ≤ 4 := by
    obtain rfl | rfl | rfl | rfl : i = 0 ∨ i = 1 ∨ i = 2 ∨ i = 3 := by omega
    all_goals decide
  generalize gapS i = G at *
  have z1 : (s ++ ⟨#[10]⟩ : ByteArray).size ≤ 1001 := by rw [ByteArray.size_append]; have : (⟨#[10]⟩ : ByteArray).size = 1 := rfl; omega
  have z2 : ((s ++ ⟨#[10]⟩ : ByteArray) ++ G).size ≤ 1005 := by rw [ByteArray.size_append]; omega
  have z3 : ((s ++ ⟨#[10]⟩ : ByteArray) ++ G ++ t).size ≤ 2005 := by rw [ByteArray.size_append]; omega
  have h1 := fun W => lex_any (s ++ ⟨#[10]⟩ : ByteArray) W (by omega)
  have h2 := fun W => lex_any t W (by omega)
  have h3 := fun W => lex_any ((s ++ ⟨#[10]⟩ : ByteArray) ++ G ++ t) W (by omega)
  have key := fun hA hB => three (s := s) (t := t) hs ht hg hgr hgl hA hB
  generalize ans (Gly.runes ((s ++ ⟨#[10]⟩ : ByteArray) ++ G ++ t).data.toList) = C at *
  generalize ans (Gly.runes (s ++ ⟨#[10]⟩ : ByteArray).data.toList) = A at *
  generalize ans (Gly.runes t.data.toList) = B at *
  obtain ⟨cc, pc, lc⟩ := C
  obtain ⟨ca, pa, la⟩ := A
  obtain ⟨cb, pb, lb⟩ := B
  simp only at key
  have H1 := Lib.hid h1
  have H2 := Lib.hid h2
  have H3 := Lib.hid h3
  have HK := Lib.hid key
  clear h1 h2 h3 key hg hgr hgl hi
  go_enter Try.func6, Try.ntmps6
  go_wp2_with fail
  refine (HA.out _).mono ?_
  rintro e w1 ⟨rfl, b1⟩
  go_wp2_with fail
  refine (H1.out _).mono ?_
  rintro e w2 ⟨v2, rfl, o2, b2⟩
  obtain ⟨ao, ac, rfl⟩ := own_slice o2
  have al2 := (Below.refl w2.heap.size w2).alloc (Nat.le_refl _) (.cells #[.int .i64 (pa.1 : Nat), .int .i64 (pa.2 : Nat)] 25)
  have M2 := Lib.hid (And.intro (own_below o2 al2) ((b1.trans (b2.mono b1.size)).trans (al2.mono (Nat.le_trans b1.size b2.size))))
  clear o2 al2 b1 b2 HA
  unfold plV
  go_wp2_with fail
  generalize w2.alloc (.cells #[.int .i64 (pa.1 : Nat), .int .i64 (pa.2 : Nat)] 25) = x2 at *
  refine (H2.out _).mono ?_
  rintro e w3 ⟨v3, rfl, o3, b3⟩
  obtain ⟨bo, bc, rfl⟩ := own_slice o3
  have al3 := (Below.refl w3.heap.size w3).alloc (Nat.le_refl _) (.cells #[.int .i64 (pb.1 : Nat), .int .i64 (pb.2 : Nat)] 25)
  have M3 := Lib.hid (And.intro (own_below (own_below M2.out.1 b3) al3) (And.intro (own_below o3 al3) ((M2.out.2.trans (b3.mono M2.out.2.size)).trans (al3.mono (Nat.le_trans M2.out.2.size b3.size)))))
  clear o3 al3 b3 M2
  unfold plV
  go_wp2_with fail
  generalize w3.alloc (.cells #[.int .i64 (pb.1 : Nat), .int .i64 (pb.2 : Nat)] 25) = x3 at *
  refine (H3.out _).mono ?_
  rintro e w4 ⟨v4, rfl, o4, b4⟩
  obtain ⟨co, cp, rfl⟩ := own_slice o4
  have al4 := (Below.refl w4.heap.size w4).alloc (Nat.le_refl _) (.cells #[.int .i64 (pc.1 : Nat), .int .i64 (pc.2 : Nat)] 25)
  have M4 := Lib.hid (And.intro (own_below (own_below M3.out.1 b4) al4) (And.intro (own_below (own_below M3.out.2.1 b4) al4) (And.intro (own_below o4 al4) ((M3.out.2.2.trans (b4.mono M3.out.2.2.size)).trans (al4.mono (Nat.le_trans M3.out.2.2.size b4.size))))))
  clear o4 al4 b4 M3 H1 H2 H3 z1 z2 z3 hgx hgs
  unfold plV
  by_cases hca : ca = 0
  · by_cases hcb : cb = 0
    · obtain ⟨rfl, hkt, hla, hlb⟩ := HK.out hca hcb
      subst hca hcb
      clear HK
      have hlc : lc.length = la.length + lb.length := by rw [← kt_len, hkt, List.length_append, kt_len, kt_len]
      have HT := Lib.hid hkt
      have HLC := Lib.hid hlc
      have hbs := empty_build
      have hls : IntKind.i64.wrap ((la.length : Int) + (lb.length : Int)) = (lc.length : Int) := by rw [IntKind.wrap_i64] <;> omega
      clear hkt hlc
      go_upto_region 11 with fail
      generalize w4.alloc (.cells #[.int .i64 (pc.1 : Nat), .int .i64 (pc.2 : Nat)] 25) = x4 at *
      have al5 := (Below.refl x4.heap.size x4).alloc (Nat.le_refl _) (.cells #[] 33)
      have M5 := Lib.hid (And.intro (own_below M4.out.1 al5) (And.intro (own_below M4.out.2.1 al5) al5))
      have hz5 : x4.heap.size ≤ (x4.alloc (.cells #[] 33)).heap.size := al5.size
      clear al5
      go_wp2_with (at_builtin; refine walk_join rfl _ _ rfl rfl rfl (empty_own x4) M5.out.1 hz5 (by simp only [List.length_nil]; omega) ?_)
      intro v6 x6 o6 b6
      have M6 := Lib.hid (And.intro (own_below M4.out.2.1 (M5.out.2.2.trans b6)) (M5.out.2.2.trans b6))
      obtain ⟨so, sc, rfl⟩ := own_slice o6
      have hz6 : x4.heap.size ≤ x6.heap.size := Nat.le_trans hz5 b6.size
      clear b6 M5
      go_wp2_with (at_builtin; refine walk_join rfl _ _ rfl rfl rfl o6 M6.out.1 hz6 (by omega) ?_)
      intro v7 x7 o7 b7
      rw [← List.length_append] at o7
      have hkL : kt lc = kt (la ++ lb) := by rw [kt_append]; exact HT.out
      have hlL : (la ++ lb).length ≤ 100000 := by rw [List.length_append]; omega
      generalize la ++ lb = L at *
      have hcL : lc.length = L.length := by rw [← kt_len, hkL, kt_len]
      obtain ⟨uo, uc, rfl⟩ := own_slice o7
      have bx := M6.out.2.trans b7
      have hT7 := ToksAt.of o7
      have M7 := Lib.hid (And.intro hT7 (And.intro ((ToksAt.of M4.out.2.2.1).on bx) (M4.out.2.2.2.trans (bx.mono M4.out.2.2.2.size))))
      have HKL := Lib.hid (And.intro hkL hcL)
      clear o6 o7 b7 M6 M4 hT7 hbs hls bx hkL hcL HT HLC hz5 hz6 hla hlb
      go_wp2_with fail
      go_loopw [84] (fun i wr => ∃ k : Nat, k ≤ L.length ∧ i = .int .i64 k ∧ Hid (Below x7.heap.size x7 wr)) (fun i _ => L.length - (intOf i).toNat)
      case atStart => exact ⟨0, by omega, rfl, Lib.hid (Below.refl _ _)⟩
      case round =>
        obtain ⟨k, hk, rfl, HB⟩ := hrel
        by_cases hlt : k < L.length
        · have hlm : k < lc.length := by rw [HKL.out.2]; exact hlt
          obtain ⟨g, rfl, hgg, c0, c1, c2, c3⟩ := (M7.out.1.on HB.out) k hlt
          obtain ⟨f, rfl, hf, d0, d1, -, -⟩ := (M7.out.2.1.on HB.out) k hlm
          obtain ⟨e1, e2⟩ := kt_at HKL.out.1 hlm hlt
          rw [e1] at d0
          rw [e2] at d1
          have hix := fun W => index_tok (g := g) (n := L.length) (cap := uc) hlt W
          have hiy := fun W => index_tok (g := f) (n := lc.length) (cap := cp) hlm W
          clear e1 e2
          generalize L[k].kind = kd at *
          generalize txt L[k].text = tB at *
          generalize L[k].at' = pl at *
          have al := (Below.refl wr.heap.size wr).alloc (Nat.le_refl _) (.cells #[.int .i64 kd, .string tB, .int .i64 (pl.1 : Nat), .int .i64 (pl.2 : Nat)] 33)
          have HN := Lib.hid (HB.out.trans (al.mono HB.out.size))
          have n1 : ¬ g = wr.heap.size := by omega
          have n2 : ¬ f = wr.heap.size := by omega
          clear al hlm
          go_wp2_with fail
          go_quiet (fail)
          go_wp2_with fail
          go_roundw
          case rel => exact ⟨k + 1, by omega, by go_num, Lib.hid (below_drewN HN.out _)⟩
          case measure => simp [intOf]; omega
        · clear HKL
          go_wp2_with fail
          go_ret
          exact ⟨rfl, M7.out.2.2.trans (HB.out.mono M7.out.2.2.size)⟩
    · have e1 : (cb != 0) = true := by simpa using hcb
      subst hca
      clear HK hcb
      go_wp2
      go_ret
      exact ⟨rfl, M4.out.2.2.2⟩
  · have e1 : (ca != 0) = true := by simpa using hca
    clear HK hca
    go_wp2
    go_ret
    exact ⟨rfl, M4.out.2.2.2⟩

theorem walk (s t : ByteArray) (c : Int) (w : World) (hs : s.size ≤ maxLen) (ht : t.size ≤ maxLen) (hz : (Lit.int .u8 c).wf = true) :
    Calls Try.prog 6 #[.string s, .string t, .int .u8 c] w fun e w' => e = .returned (.bool true) ∧ Below w.heap.size w w' := by
  have hc : 0 ≤ c ∧ c ≤ 255 := by
    simp [Lit.wf, IntKind.min, IntKind.max, IntKind.bits, IntKind.signed] at hz
    omega
  by_cases h : 1000 < s.size ∨ 1000 < t.size
  · exact long s t c w hs ht h
  · exact short s t c w (by omega) (by omega) hc
end LawS6Blanks
end Go.Proofs.Ytjddojpmgdnicaa
