/-
  The statement SigilLexes at every text.
-/
import Derived.Test.YtjddojpmgdnicaaSgO
import Derived.Test.YtjddojpmgdnicaaSgH
import Derived.Laws.StructEq
namespace Go.Proofs.Ytjddojpmgdnicaa
open Go.RowKit
namespace LawS6Lexes
open Sg hiding txt_list txt_size
open Tr (own_slice own_below own_open)

theorem elemR : Try.prog.underlying 29 = some (.slice (Try.prog.elem 29)) := by kernel_rfl
theorem sizeR : ∀ w, (sizeOf (Try.prog.elem 29)).run Try.prog w = .ok 4 w := fun w => by kernel_rfl
theorem index_rtok {g n cap : Nat} {j : Nat} (hj : j < n) (W : World) : (Instr.indexAt 29 (.slice (some ⟨g, 0, none⟩) n cap) (.int .i64 (j : Int))).run Try.prog W = .ok (.pointer (some ⟨g, j * 4, none⟩)) W := by
  rw [run_indexAt_slice W _ _ _ _ _ _ elemR, if_pos ⟨by omega, by omega⟩, sizeR]
  have e : ((j : Int)).toNat = j := by omega
  simp only [Result.andThen_ok, e, Addr.add_lit, Nat.zero_add]

/-- A token struck. -/
def zeroT (x : World) (g o : Nat) : World := (((x.setCell ⟨g, o, none⟩ (.int .i64 0)).setCell ⟨g, o + 1, none⟩ (.string ⟨#[]⟩)).setCell ⟨g, o + 2, none⟩ (.int .i64 0)).setCell ⟨g, o + 3, none⟩ (.int .i64 0)
theorem zeroT_other (x : World) (g o : Nat) {b p : Nat} (h : b ≠ g ∨ p < o ∨ o + 4 ≤ p) : (zeroT x g o).cell? ⟨b, p, none⟩ = x.cell? ⟨b, p, none⟩ := by
  have key : ∀ (y : World) (q : Nat) (v : Value), o ≤ q → q < o + 4 → (y.setCell ⟨g, q, none⟩ v).cell? ⟨b, p, none⟩ = y.cell? ⟨b, p, none⟩ := fun y q v h1 h2 =>
    World.cell?_setCell_other y _ _ v (by
      intro e
      injection e with e1 e2 e3
      omega)
  rw [zeroT, key _ _ _ (by omega) (by omega), key _ _ _ (by omega) (by omega), key _ _ _ (by omega) (by omega), key _ _ _ (by omega) (by omega)]
theorem zeroT_size (x : World) (g o : Nat) : (zeroT x g o).heap.size = x.heap.size := by simp [zeroT, World.setCell]
theorem zeroT_below {w x : World} {B g : Nat} (o : Nat) (h : Below B w x) (hB : B ≤ g) : Below B w (zeroT x g o) :=
  (((h.setCell (p := ⟨g, o, none⟩) hB _).setCell (p := ⟨g, o + 1, none⟩) hB _).setCell (p := ⟨g, o + 2, none⟩) hB _).setCell (p := ⟨g, o + 3, none⟩) hB _

/-- The tokens that are left, and those that are wanted. -/
structure LZ (g f : Nat) (l : List Tok) (i : Nat) (x : World) : Prop where
  hg : g < x.heap.size
  hf : f < x.heap.size
  ne : f ≠ g
  toks : ∀ j (h : j < l.length), i ≤ j → TokAt x g (j * 4) l[j]
  free : ∀ o, x.frozen? ⟨g, o, none⟩ = false
  want : ∀ j (h : j < l.length), TokAt x f (j * 4) l[j]
section
variable {g f i : Nat} {l : List Tok} {x y : World}
theorem LZ.on (h : LZ g f l i x) (hb : Below x.heap.size x y) : LZ g f l i y :=
  ⟨Nat.lt_of_lt_of_le h.hg hb.size, Nat.lt_of_lt_of_le h.hf hb.size, h.ne, fun j hj hi => (h.toks j hj hi).on h.hg hb, fun o => (hb.frozen (p := ⟨g, o, none⟩) h.hg).trans (h.free o), fun j hj => (h.want j hj).on h.hf hb⟩
theorem LZ.next (h : LZ g f l i x) : LZ g f l (i + 1) (zeroT x g (i * 4)) := by
  refine ⟨by rw [zeroT_size]; exact h.hg, by rw [zeroT_size]; exact h.hf, h.ne, fun j hj hi => ?_, fun o => ?_, fun j hj => ?_⟩
  · obtain ⟨a, b, c, d⟩ := h.toks j hj (by omega)
    exact ⟨(zeroT_other _ _ _ (by omega)).trans a, (zeroT_other _ _ _ (by omega)).trans b, (zeroT_other _ _ _ (by omega)).trans c, (zeroT_other _ _ _ (by omega)).trans d⟩
  · rw [zeroT, World.frozen?_setCell, World.frozen?_setCell, World.frozen?_setCell, World.frozen?_setCell]; exact h.free o
  · have hn := h.ne
    obtain ⟨a, b, c, d⟩ := h.want j hj
    exact ⟨(zeroT_other _ _ _ (by omega)).trans a, (zeroT_other _ _ _ (by omega)).trans b, (zeroT_other _ _ _ (by omega)).trans c, (zeroT_other _ _ _ (by omega)).trans d⟩
end
/-- What the inner loop keeps. -/
def Lz (W0 : World) (ao bo : Option Addr) (l : List Tok) (i : Nat) (x : World) : Prop :=
  Below W0.heap.size W0 x ∧ (i < l.length → ∃ g f, ao = some ⟨g, 0, none⟩ ∧ bo = some ⟨f, 0, none⟩ ∧ W0.heap.size ≤ g ∧ LZ g f l i x)
theorem own_free {w : World} {B n c : Nat} {e : TypeId} {g cap : Nat} {xs : List Value} (h : w.ownsRow B e c (.slice (some ⟨g, 0, none⟩) n cap) n xs) (o : Nat) : w.frozen? ⟨g, o, none⟩ = false := by
  rcases h.2 with ⟨h0, -⟩ | ⟨g', cap', cur, hv, hb, hg, -⟩
  · simp at h0
  · obtain ⟨rfl, -⟩ : g = g' ∧ cap = cap' := by simpa using hv
    exact Lib.frozen_of_heap hg o
theorem rtoks_open {B : Nat} {x : World} {v : Value} {l : List Tok} (h : x.ownsRow B 35 4 v l.length (toksC l)) (hl : l ≠ []) :
    ∃ g cap, v = .slice (some ⟨g, 0, none⟩) l.length cap ∧ B ≤ g ∧ g < x.heap.size ∧ ∀ j (h : j < l.length), TokAt x g (j * 4) l[j] := by
  have hp := List.length_pos_iff.2 hl
  obtain ⟨n, hn⟩ : ∃ n, l.length = n + 1 := ⟨l.length - 1, by omega⟩
  rw [hn] at h
  obtain ⟨g, cap, rfl, hB, hg, -, hc⟩ := own_open h
  refine ⟨g, cap, by rw [hn], hB, hg, fun j hj => ?_⟩
  obtain ⟨c0, c1, c2, c3⟩ := toksC_at l hj
  exact ⟨hc _ _ c0, hc _ _ c1, hc _ _ c2, hc _ _ c3⟩
theorem lz_start {W0 x1 x2 x3 : World} {ao bo : Option Addr} {ac bc : Nat} {l : List Tok} (h1 : x1.ownsRow W0.heap.size 33 4 (.slice ao l.length ac) l.length (toksC l)) (b1 : Below W0.heap.size W0 x1) (b2 : Below x1.heap.size x1 x2)
    (h3 : x3.ownsRow x2.heap.size 35 4 (.slice bo l.length bc) l.length (toksC l)) (b3 : Below x2.heap.size x2 x3) : Lz W0 ao bo l 0 x3 := by
  have b12 := b2.trans (b3.mono b2.size)
  refine ⟨b1.trans (b12.mono b1.size), fun hl => ?_⟩
  have hne : l ≠ [] := by rintro rfl; simp at hl
  obtain ⟨g, cap, hv, hB, hg, hT⟩ := toks_open h1 hne
  obtain ⟨f, cap', hv', hB', hf, hT'⟩ := rtoks_open h3 hne
  obtain ⟨rfl, rfl⟩ : ao = some ⟨g, 0, none⟩ ∧ ac = cap := by simpa using hv
  obtain ⟨rfl, rfl⟩ : bo = some ⟨f, 0, none⟩ ∧ bc = cap' := by simpa using hv'
  have hgf : g < f := Nat.lt_of_lt_of_le hg (Nat.le_trans b2.size hB')
  exact ⟨g, f, rfl, rfl, hB, ⟨Nat.lt_of_lt_of_le hg b12.size, hf, by omega, fun j hj _ => (hT j hj).on hg b12, fun o => (b12.frozen (p := ⟨g, o, none⟩) hg).trans (own_free h1 o), hT'⟩⟩

theorem ans_len (o : Option (List Nat)) : (ans o).2.2.length ≤ 6000 := by
  cases o with
  | none => simp [ans]
  | some q =>
    by_cases hl : 3000 < q.length
    · rw [ans_long hl]; simp
    · cases h2 : (lex (1, 1) q).2.2 with
      | true =>
        rw [ans_ok hl h2]
        have h1 := (lex_tells q.length q (1, 1) (Nat.le_refl _)).2
        have h3 := again_len (lex (1, 1) q).1
        simp only; omega
      | false => rw [ans_bad hl h2]; simp

theorem long (s : ByteArray) (w : World) (hs : s.size ≤ maxLen) (hl : 4000 < s.size) :
    Calls Try.prog 3 #[.string s] w fun e w' => e = .returned (.bool true) ∧ Below w.heap.size w w' := by
  unfold maxLen at hs
  have HA := Lib.hid (fun w => awake_any w)
  go_enter Try.func3, Try.ntmps3
  go_wp2_with fail
  refine (HA.out _).mono ?_
  rintro e w1 ⟨rfl, b1⟩
  go_wp2_with fail
  refine (HA.out _).mono ?_
  rintro e w2 ⟨rfl, b2⟩
  replace b2 := b1.trans (b2.mono b1.size)
  go_wp2
  go_ret
  exact ⟨rfl, b2⟩

set_option maxHeartbeats 8000000 in
set_option maxRecDepth 100000 in
theorem short (s : ByteArray) (w : World) (hs : s.size ≤ 4000) :
    Calls Try.prog 3 #[.string s] w fun e w' => e = .returned (.bool true) ∧ Below w.heap.size w w' := by
  have HA := Lib.hid (fun w => awake_any w)
  have h1 := fun W => lex_any s W (by omega)
  have h2 := fun W => rlex_any s W (by omega)
  have hll := ans_len (Gly.runes s.data.toList)
  generalize ans (Gly.runes s.data.toList) = an at *
  obtain ⟨code, pl, l⟩ := an
  simp only at hll
  have H1 := Lib.hid h1
  have H2 := Lib.hid h2
  clear h1 h2
  go_enter Try.func3, Try.ntmps3
  go_wp2_with fail
  refine (HA.out _).mono ?_
  rintro e w1 ⟨rfl, b1⟩
  go_wp2_with fail
  go_loopw [20] (fun c wr => ∃ k : Nat, k ≤ 2 ∧ c = .int .i64 k ∧ Hid (Below w.heap.size w wr)) (fun c _ => 2 - (intOf c).toNat)
  case atStart => exact ⟨0, by omega, rfl, Lib.hid b1⟩
  case round =>
    clear b1 HA
    obtain ⟨k, hk, rfl, HB⟩ := hrel
    by_cases hlt : k < 2
    · obtain ⟨W0, hW0⟩ : ∃ W0, W0 = wr := ⟨_, rfl⟩
      go_wp2_with fail
      refine (H1.out _).mono ?_
      rintro e x1 ⟨v1, rfl, o1, d1⟩
      obtain ⟨ao, ac, rfl⟩ := own_slice o1
      have al := (Below.refl x1.heap.size x1).alloc (Nat.le_refl _) (.cells #[.int .i64 (pl.1 : Nat), .int .i64 (pl.2 : Nat)] 25)
      have hP := PlB.new x1 pl
      have M1 := Lib.hid (And.intro o1 (And.intro d1 (And.intro al hP)))
      clear o1 d1 al hP
      unfold plV
      go_wp2_with fail
      generalize x1.alloc (.cells #[.int .i64 (pl.1 : Nat), .int .i64 (pl.2 : Nat)] 25) = x2 at *
      refine (H2.out _).mono ?_
      rintro e x3 ⟨v3, rfl, o3, d3⟩
      obtain ⟨bo, bc, rfl⟩ := own_slice o3
      have HZ := Lib.hid (lz_start M1.out.1 M1.out.2.1 M1.out.2.2.1 o3 d3)
      obtain ⟨c0, c1⟩ := (M1.out.2.2.2.on d3).cells
      rw [← hW0] at HZ HB
      clear o3 d3 M1 hW0
      go_wp2_with fail
      clear c0 c1
      go_loopw [59] (fun i wi => ∃ j : Nat, j ≤ l.length ∧ i = .int .i64 j ∧ Hid (Lz W0 ao bo l j wi)) (fun i _ => l.length - (intOf i).toNat)
      case atStart => exact ⟨0, by omega, rfl, HZ⟩
      case round =>
        obtain ⟨j, hj, rfl, HJ⟩ := hrel
        by_cases hjl : j < l.length
        · obtain ⟨g, f, rfl, rfl, hgB, hz⟩ := HJ.out.2 hjl
          obtain ⟨c0, c1, c2, c3⟩ := hz.toks j hjl (Nat.le_refl _)
          obtain ⟨d0, d1, d2, d3⟩ := hz.want j hjl
          have fr0 := hz.free (j * 4)
          have fr1 := hz.free (j * 4 + 1)
          have fr2 := hz.free (j * 4 + 2)
          have fr3 := hz.free (j * 4 + 3)
          have hix := fun W => index_tok (g := g) (n := l.length) (cap := ac) hjl W
          have hiy := fun W => index_rtok (g := f) (n := l.length) (cap := bc) hjl W
          have hg := hz.hg
          have hf := hz.hf
          have hfg := hz.ne
          have HH := Lib.hid (And.intro hz HJ.out.1)
          clear hz HZ HJ
          generalize l[j].kind = kd at *
          generalize txt l[j].text = tB at *
          generalize l[j].at' = pt at *
          have al := Lib.hid ((Below.refl wr.heap.size wr).alloc (Nat.le_refl _) (.cells #[.int .i64 kd, .string tB, .int .i64 (pt.1 : Nat), .int .i64 (pt.2 : Nat)] 33))
          have n1 : ¬ g = wr.heap.size := by omega
          have n2 : ¬ f = wr.heap.size := by omega
          go_wp2_with fail
          go_quiet (fail)
          go_wp2_with fail
          go_roundw
          case rel => exact ⟨j + 1, by omega, by go_num, Lib.hid ⟨zeroT_below (j * 4) (HH.out.2.trans ((below_drewN al.out _).mono HH.out.2.size)) hgB, fun _ => ⟨g, f, rfl, rfl, hgB, (HH.out.1.on (below_drewN al.out _)).next⟩⟩⟩
          case measure => simp [intOf]; omega
        · have HN := Lib.hid (HB.out.trans (HJ.out.1.mono HB.out.size))
          clear HJ HZ
          go_wp2_with fail
          go_roundw
          case rel => exact ⟨k + 1, by omega, by go_num, HN⟩
          case measure => simp [intOf]; omega
    · go_wp2_with fail
      go_ret
      exact ⟨rfl, HB.out⟩

theorem walk (s : ByteArray) (w : World) (hs : s.size ≤ maxLen) :
    Calls Try.prog 3 #[.string s] w fun e w' => e = .returned (.bool true) ∧ Below w.heap.size w w' := by
  by_cases h : 4000 < s.size
  · exact long s w hs h
  · exact short s w (by omega)
end LawS6Lexes
end Go.Proofs.Ytjddojpmgdnicaa
