/-
  Layer 5 (tract): Refs, Direct, Plain, of an expression.
-/
import Derived.Test.YtleoknhnglbgoaaTrRefs
import Derived.Test.YtleoknhnglbgoaaRows2
import Derived.Test.YtleoknhnglbgoaaTrThr
namespace Go.Proofs.Ytleoknhnglbgoaa
open Go.RowKit
namespace Tr
open Knot (Turns NewRow)

theorem refs_elem : ∃ i z b, IsElem Try.prog 35 41 i z 3 b ∧ b ≤ 100 := by
  refine ⟨_, _, _, ⟨by kernel_rfl, rfl, rfl, by kernel_rfl, rfl, by kernel_rfl, by omega⟩, ?_⟩
  exact of_decide_eq_true (by kernel_rfl)
/-- The cells of references. -/
def cellsR (l : List Rf) : List Value := l.flatMap fun r => [.string r.via, .string r.rel, .bool r.odd]
theorem cellsR_append (l m : List Rf) : cellsR (l ++ m) = cellsR l ++ cellsR m := by simp [cellsR]
/-- The list of references in block K: v is its slice. -/
def ListAt (B K : Nat) (s : List Rf) (x : World) : Prop := ∃ v, x.heap[K]? = some (.cells #[v] 35 (0, 0)) ∧ B ≤ K ∧ x.ownsRow B 41 3 v s.length (cellsR s)
/-- Its blocks. -/
def footR (K : Nat) (x : World) (k : Nat) : Prop := k = K ∨ ∃ v, x.heap[K]? = some (.cells #[v] 35 (0, 0)) ∧ v.ownBlock = some k
theorem ListAt.low {B K : Nat} {s : List Rf} {x : World} (h : ListAt B K s x) : ∀ k, footR K x k → B ≤ k ∧ k < x.heap.size := by
  obtain ⟨v, hK, hB, ho⟩ := h
  have hlt := (Array.getElem?_eq_some_iff.1 hK).1
  rintro k (rfl | ⟨v', hv', e⟩)
  · exact ⟨hB, hlt⟩
  · rw [hK] at hv'
    obtain rfl : v = v' := by simpa using hv'
    exact ⟨(ho.lt k e).1, (ho.lt k e).2⟩
theorem ListAt.ne {B K : Nat} {s : List Rf} {v : Value} {x : World} (hK : x.heap[K]? = some (.cells #[v] 35 (0, 0))) (ho : x.ownsRow B 41 3 v s.length (cellsR s)) : v.ownBlock ≠ some K := fun e => by
  rcases ho.2 with ⟨rfl, -⟩ | ⟨g, cap, cur, rfl, -, hg, -⟩
  · simp [Value.ownBlock] at e
  · have e1 : g = K := by simpa [Value.ownBlock] using e
    subst e1
    rw [hg] at hK
    simp at hK
theorem ListAt.keep {B K : Nat} {s : List Rf} {x y : World} (h : ListAt B K s x) (hb : Below x.heap.size x y) : ListAt B K s y := by
  obtain ⟨v, hK, hB, ho⟩ := h
  exact ⟨v, (hb.block K (Array.getElem?_eq_some_iff.1 hK).1).trans hK, hB, own_below ho hb⟩
theorem footR.same {B K : Nat} {s : List Rf} {x y : World} (h : ListAt B K s x) (hb : Below x.heap.size x y) : ∀ k, footR K y k → footR K x k := by
  obtain ⟨v, hK, hB, ho⟩ := h
  rintro k (rfl | ⟨v', hv', e⟩)
  · exact .inl rfl
  · exact .inr ⟨v', (hb.block K (Array.getElem?_eq_some_iff.1 hK).1).symm.trans hv', e⟩

/-- What the references come to. -/
def stpR (s : List Rf) (n : Nd) (odd : Bool) : List Rf := if isRef n then s ++ [⟨(refOf n).via, (refOf n).rel, odd⟩] else s

theorem new_alloc (w : World) (o : Obj) : Below w.heap.size w (w.alloc o) := (Below.refl _ _).alloc (Nat.le_refl _) o

set_option maxHeartbeats 4000000 in
set_option maxRecDepth 100000 in
theorem refs_see (B K : Nat) (s : List Rf) (n : Nd) (u : Value) (odd : Bool) (w : World) (hg : good n = true) (hn : IsExpr 0 w n u) (hs : s.length ≤ 1000) (hB : B ≤ w.heap.size) (hL : ListAt B K s w) :
    Calls Try.prog 28 #[u, .bool odd, .pointer (some ⟨K, 0, none⟩)] w fun e x => e = .returned (.tuple #[]) ∧ ListAt B K (stpR s n odd) x ∧ After (footR K w) (footR K x) w x := by
  have HC := Lib.hid (reference_any n u w hg hn)
  have HL := Lib.hid hL
  clear hn hg hL
  cases hr : isRef n with
  | false =>
    rw [hr] at HC
    have HS := Lib.hid (show stpR s n odd = s by rw [stpR, hr]; simp)
    clear hr
    go_enter Try.func28, Try.ntmps28
    go_wp2_with fail
    refine HC.out.mono ?_
    rintro e x ⟨rfl, hx⟩
    have H1 := Lib.hid hx
    clear hx
    go_wp2_with fail
    go_end0
    have hb := H1.out.alloc H1.out.size (.cells #[.string (refOf n).via, .string (refOf n).rel, .bool (refOf n).odd] 41)
    rw [HS.out]
    exact ⟨rfl, HL.out.keep hb, ⟨Turns.of_below hb, fun k hk => .inl (footR.same HL.out hb k hk)⟩⟩
  | true =>
    rw [hr] at HC
    have HS := Lib.hid (show stpR s n odd = s ++ [⟨(refOf n).via, (refOf n).rel, odd⟩] by rw [stpR, hr]; simp)
    clear hr
    generalize refOf n = r at *
    go_enter Try.func28, Try.ntmps28
    go_wp2_with fail
    refine HC.out.mono ?_
    rintro e x ⟨rfl, hx⟩
    obtain ⟨v, hK, hBK, ho⟩ := HL.out
    have hKl := (Array.getElem?_eq_some_iff.1 hK).1
    have hxs := hx.size
    have hK1 : x.heap[K]? = some (.cells #[v] 35 (0, 0)) := (hx.block K hKl).trans hK
    have ho1 := own_below ho hx
    obtain ⟨ro, rc, rfl⟩ := own_slice ho
    have al1 := new_alloc x (.cells #[.string r.via, .string r.rel, .bool odd] 41)
    have al2 : Below x.heap.size x ((x.alloc (.cells #[.string r.via, .string r.rel, .bool odd] 41)).alloc (.cells [.string r.via, .string r.rel, .bool odd].toArray 41)) := al1.alloc (by simp) _
    have ck : (x.alloc (.cells #[.string r.via, .string r.rel, .bool odd] 41)).cell? ⟨K, 0, none⟩ = some (.slice ro s.length rc) := by
      rw [al1.cell (p := ⟨K, 0, none⟩) (by show K < _; omega), Lib.cell_of_heap hK1]; rfl
    obtain ⟨ti, tz, tb', T, hT⟩ := refs_elem
    have H1 := Lib.hid (And.intro (hx.trans (al2.mono hxs)) (And.intro hK (And.intro ((al2.block K (by omega)).trans hK1) (And.intro (own_below ho1 al2) (And.intro hBK (And.intro hKl hxs))))))
    have HT := Lib.hid (And.intro T hT)
    clear hx hK hK1 ho ho1 hBK hKl hxs al1 al2 T hT
    go_wp2_with (at_builtin; refine walk_rows HT.out.1 rfl _ _ rfl rfl rfl H1.out.2.2.2.1 (by have := H1.out.2.2.2.2.2.2; simp; omega) (m := 1) rfl (new_cells _ _ [.string r.via, .string r.rel, .bool odd] (by simp)) (by intro u' hu'; simp at hu'; rcases hu' with rfl | rfl | rfl <;> rfl) (by omega) (Nat.le_trans (Nat.mul_le_mul_left _ HT.out.2) (by omega)) ?_)
    intro v2 z o2 g2 n2
    obtain ⟨ro2, rc2, rfl⟩ := own_slice o2
    have hne : (Value.slice ro s.length rc).ownBlock ≠ some K := by
      obtain ⟨v, hv, -, hv2⟩ := HL.out
      rw [H1.out.2.1] at hv
      obtain rfl : Value.slice ro s.length rc = v := by simpa using hv
      exact ListAt.ne H1.out.2.1 hv2
    have hKz : z.heap[K]? = some (.cells #[.slice ro s.length rc] 35 (0, 0)) := (g2.block K (by have := H1.out.2.2.2.2.2; simp; omega) fun e => hne e.symm).trans H1.out.2.2.1
    have cz : z.cell? ⟨K, 0, none⟩ = some (.slice ro s.length rc) := by rw [Lib.cell_of_heap hKz]; rfl
    have fz : z.frozen? ⟨K, 0, none⟩ = false := Lib.frozen_of_heap hKz 0
    have H2 := Lib.hid (And.intro o2 (And.intro g2 (And.intro n2 (And.intro hne hKz))))
    clear o2 g2 n2 hne hKz ck
    go_wp2_with fail
    go_end0
    obtain ⟨o2, g2, n2, hne, hKz⟩ := H2.out
    obtain ⟨hA, hK, hKA, -, hBK, hKl, -⟩ := H1.out
    have hAs := hA.size
    have hne2 : (Value.slice ro2 (s.length + 1) rc2).ownBlock ≠ some K := fun e => by
      rcases n2 K e with h | h
      · exact hne h
      · omega
    have hy := heap_setCell_same z K 0 _ _ (Value.slice ro2 (s.length + 1) rc2) hKz
    have hy2 : (z.setCell ⟨K, 0, none⟩ (Value.slice ro2 (s.length + 1) rc2)).heap[K]? = some (.cells #[.slice ro2 (s.length + 1) rc2] 35 (0, 0)) := hy
    have tK : Turns (fun k => k = K) z (z.setCell ⟨K, 0, none⟩ (Value.slice ro2 (s.length + 1) rc2)) := Turns.setCell (F := fun k => k = K) (Turns.refl _ _) rfl _
    refine ⟨rfl, ?_, ⟨?_, ?_⟩⟩
    · rw [HS.out]
      refine ⟨_, hy2, hBK, ?_⟩
      rw [List.length_append, cellsR_append]
      exact own_turn o2 tK fun k hk e => hne2 (by rw [← e]; exact hk)
    · have t1 : Turns (footR K w) w z := (Turns.of_below (F := footR K w) hA).trans (G := fun k => (Value.slice ro s.length rc).ownBlock = some k) (Turns.of_grown g2 fun k hk => hk) fun k _ hk => .inr ⟨_, hK, hk⟩
      exact t1.trans tK fun k _ e => .inl e
    · rintro k (rfl | ⟨v', hv', e⟩)
      · exact .inl (.inl rfl)
      · rw [hy2] at hv'
        obtain rfl : Value.slice ro2 (s.length + 1) rc2 = v' := by simpa using hv'
        rcases n2 k e with h | h
        · exact .inl (.inr ⟨_, hK, h⟩)
        · exact .inr (by omega)

theorem refs_sees (W : World) (K : Nat) (hK : W.heap.size ≤ K) : Sees W 28 #[.pointer (some ⟨K, 0, none⟩)] (σ := List Rf) (fun m s x => ListAt W.heap.size K s x ∧ s.length + m ≤ 1000) (footR K) stpR where
  enter := fun args x => by kernel_rfl
  low := fun m s x k h hk => h.1.low k hk
  keep := fun m s x y h hb => ⟨h.1.keep hb, h.2⟩
  same := fun m s x y h hb k hk => footR.same h.1 hb k hk
  see := fun m s x n u odd h hg hn => by
    have hlt := h.1.low K (.inl rfl)
    refine (refs_see W.heap.size K s n u odd x hg hn (by have := h.2; omega) (by omega) h.1).mono fun e y ⟨he, h1, h2⟩ => ⟨he, ⟨h1, ?_⟩, h2⟩
    have := h.2
    rw [stpR]
    split
    · rw [List.length_append, List.length_singleton]; omega
    · omega

mutual
/-- The references, as eachPart comes to them, are those of the document. -/
theorem seen_refs : ∀ (n : Nd) (odd : Bool) (s : List Rf), good n = true → seen stpR n odd s = s ++ refs n odd
  | .mk k a b l, odd, s, hg => by
    rw [good, Bool.and_eq_true] at hg
    obtain ⟨hgs, hf⟩ := hg
    rw [seen, seens_refs k l 0 odd _ hgs, stpR, refs]
    by_cases h2 : k = 2
    · subst h2
      have hl : l = [] := by
        revert hf
        rw [fits]
        simp
      subst hl
      simp [isRef, refOf, refss]
    · by_cases h3 : k = 3
      · subst h3
        have hl : l = [] := by
          revert hf
          rw [fits]
          simp
        subst hl
        simp [isRef, refOf, refss]
      · simp [isRef, h2, h3]
theorem seens_refs (k : Int) : ∀ (l : List Nd) (i : Nat) (odd : Bool) (s : List Rf), goods l = true → seens stpR k l i odd s = s ++ refss k l i odd
  | [], i, odd, s, _ => by simp [seens, refss]
  | n :: r, i, odd, s, hg => by
    rw [goods, Bool.and_eq_true] at hg
    rw [seens, refss, seen_refs n _ s hg.1, seens_refs k r (i + 1) odd _ hg.2, List.append_assoc]
end

/-- A list of references that lies in memory: a slice that its maker owns. -/
def RefsAt (B : Nat) (x : World) (v : Value) (s : List Rf) : Prop := x.ownsRow B 41 3 v s.length (cellsR s)
set_option maxHeartbeats 1000000 in
theorem refs_any (n : Nd) (u : Value) (w : World) (hz : size n ≤ 300) (hg : good n = true) (hn : IsExpr 0 w n u) :
    Calls Try.prog 12 #[u] w fun e x => ∃ v, e = .returned v ∧ RefsAt w.heap.size x v (refs n false) ∧ Below w.heap.size w x := by
  have hb := new_alloc w (.cells #[.slice none 0 0] 35)
  have hL : ListAt w.heap.size w.heap.size [] (w.alloc (.cells #[.slice none 0 0] 35)) := ⟨_, heap_alloc_new w _, Nat.le_refl _, World.ownsRow_nil _ _ _ _⟩
  have hC := each_any (refs_sees w w.heap.size (Nat.le_refl _)) (size n) n u false [] 0 (w.alloc (.cells #[.slice none 0 0] 35)) (Nat.le_refl _) hz hg hn hb ⟨hL, by simp; omega⟩
  rw [seen_refs n false [] hg, List.nil_append] at hC
  have HC := Lib.hid hC
  have HL := Lib.hid (And.intro hL hb)
  clear hn hb hL hC
  go_enter Try.func12, Try.ntmps12
  go_wp2_with fail
  refine HC.out.mono ?_
  rintro e x ⟨rfl, ⟨⟨v, hK, -, ho⟩, -⟩, ha⟩
  obtain ⟨ro, rc, rfl⟩ := own_slice ho
  have c0 : x.cell? ⟨w.heap.size, 0, none⟩ = some (.slice ro (refs n false).length rc) := by rw [Lib.cell_of_heap hK]; rfl
  have HX := Lib.hid (And.intro ho (HL.out.2.trans (ha.turns.below HL.out.2.size fun k hk => (HL.out.1.low k hk).1)))
  clear hK ho ha
  go_wp2_with fail
  go_ret
  exact ⟨_, rfl, HX.out.1, HX.out.2⟩

/-! ### is there a This? -/
/-- A truth in a cell. -/
def BoolAt (K : Nat) (b : Bool) (x : World) : Prop := x.heap[K]? = some (.cells #[.bool b] 4 (0, 0))
theorem BoolAt.cell {K : Nat} {b : Bool} {x : World} (h : BoolAt K b x) : x.cell? ⟨K, 0, none⟩ = some (.bool b) ∧ x.frozen? ⟨K, 0, none⟩ = false := ⟨by rw [Lib.cell_of_heap h]; rfl, Lib.frozen_of_heap h 0⟩
theorem BoolAt.lt {K : Nat} {b : Bool} {x : World} (h : BoolAt K b x) : K < x.heap.size := (Array.getElem?_eq_some_iff.1 h).1
theorem BoolAt.on {K : Nat} {b : Bool} {x y : World} (h : BoolAt K b x) (hb : Below x.heap.size x y) : BoolAt K b y := (hb.block K h.lt).trans h
theorem BoolAt.put {K : Nat} {b : Bool} {x : World} (h : BoolAt K b x) (c : Bool) : BoolAt K c (x.setCell ⟨K, 0, none⟩ (.bool c)) := by
  rw [BoolAt, heap_setCell_same x K 0 #[.bool b] _ _ h]
  rfl
def stpD (want : Bool) (s : Bool) (n : Nd) (odd : Bool) : Bool := s || ((odd == want) && isThis n)

set_option maxHeartbeats 2000000 in
set_option maxRecDepth 100000 in
theorem direct_see (J K : Nat) (want s : Bool) (n : Nd) (u : Value) (odd : Bool) (w : World) (hn : IsExpr 0 w n u) (hJ : BoolAt J want w) (hK : BoolAt K s w) (hne : J ≠ K) :
    Calls Try.prog 30 #[u, .bool odd, .pointer (some ⟨J, 0, none⟩), .pointer (some ⟨K, 0, none⟩)] w fun e x => e = .returned (.tuple #[]) ∧ (BoolAt J want x ∧ BoolAt K (stpD want s n odd) x) ∧ Turns (fun k => k = K) w x := by
  have HC := Lib.hid (plain_any n u w hn)
  obtain ⟨j0, -⟩ := hJ.cell
  have HB := Lib.hid (And.intro hJ (And.intro hK hne))
  have tK : ∀ x, Turns (fun k => k = K) x (x.setCell ⟨K, 0, none⟩ (.bool true)) := fun x => Turns.setCell (F := fun k => k = K) (Turns.refl _ _) rfl _
  have HT := Lib.hid tK
  clear hn hJ hK hne tK
  cases hw : odd == want with
  | false =>
    have HS := Lib.hid (show stpD want s n odd = s by rw [stpD, hw]; simp)
    clear HC
    go_enter Try.func30, Try.ntmps30
    go_wp2_with fail
    go_end0
    rw [HS.out]
    exact ⟨rfl, ⟨HB.out.1, HB.out.2.1⟩, Turns.refl _ _⟩
  | true =>
    cases ht : isThis n with
    | false =>
      have HS := Lib.hid (show stpD want s n odd = s by rw [stpD, ht]; simp)
      rw [ht] at HC
      clear ht
      go_enter Try.func30, Try.ntmps30
      go_wp2_with fail
      refine HC.out.mono ?_
      rintro e x ⟨rfl, hx⟩
      go_wp2_with fail
      go_end0
      rw [HS.out]
      exact ⟨rfl, ⟨HB.out.1.on hx, HB.out.2.1.on hx⟩, Turns.of_below hx⟩
    | true =>
      have HS := Lib.hid (show stpD want s n odd = true by rw [stpD, ht, hw]; simp)
      rw [ht] at HC
      clear ht
      go_enter Try.func30, Try.ntmps30
      go_wp2_with fail
      refine HC.out.mono ?_
      rintro e x ⟨rfl, hx⟩
      have hK2 := HB.out.2.1.on hx
      obtain ⟨k0, kf⟩ := hK2.cell
      have H2 := Lib.hid (And.intro hx hK2)
      clear hx hK2
      go_wp2_with fail
      go_end0
      rw [HS.out]
      refine ⟨rfl, ⟨((HT.out _).block J ?_ HB.out.2.2).trans (HB.out.1.on H2.out.1), H2.out.2.put true⟩, (Turns.of_below (F := fun k => k = K) H2.out.1).trans (HT.out _) fun _ _ h => h⟩
      have := HB.out.1.lt
      have := H2.out.1.size
      omega

theorem direct_sees (W : World) (J K : Nat) (want : Bool) (_hJ : W.heap.size ≤ J) (hK : W.heap.size ≤ K) (hne : J ≠ K) : Sees W 30 #[.pointer (some ⟨J, 0, none⟩), .pointer (some ⟨K, 0, none⟩)] (σ := Bool) (fun _ s x => BoolAt J want x ∧ BoolAt K s x) (fun _ k => k = K) (stpD want) where
  enter := fun args x => by kernel_rfl
  low := fun m s x k h hk => by subst hk; exact ⟨hK, h.2.lt⟩
  keep := fun m s x y h hb => ⟨h.1.on hb, h.2.on hb⟩
  same := fun _ _ _ _ _ _ _ h => h
  see := fun m s x n u odd h hg hn => (direct_see J K want s n u odd x hn h.1 h.2 hne).mono fun e y ⟨he, h1, h2⟩ => ⟨he, h1, ⟨h2, fun _ h => .inl h⟩⟩

mutual
/-- Whether eachPart comes to a This that stands so. -/
theorem seen_direct (want : Bool) : ∀ (n : Nd) (odd : Bool) (s : Bool), seen (stpD want) n odd s = (s || direct n want odd)
  | .mk k a b l, odd, s => by
    rw [seen, seens_direct want k l 0 odd, direct, stpD, isThis, Bool.or_assoc, Bool.or_comm (directs k l 0 want odd), Bool.and_comm (k == 1)]
    rw [show (odd == want) = (want == odd) from Bool.beq_comm]
theorem seens_direct (want : Bool) (k : Int) : ∀ (l : List Nd) (i : Nat) (odd : Bool) (s : Bool), seens (stpD want) k l i odd s = (s || directs k l i want odd)
  | [], i, odd, s => by simp [seens, directs]
  | n :: r, i, odd, s => by
    rw [seens, directs, seen_direct want n _ s, seens_direct want k r (i + 1) odd, Bool.or_assoc]
end

set_option maxHeartbeats 1000000 in
theorem direct_any (n : Nd) (u : Value) (want : Bool) (w : World) (hz : size n ≤ 300) (hg : good n = true) (hn : IsExpr 0 w n u) :
    Calls Try.prog 14 #[u, .bool want] w fun e x => e = .returned (.bool (direct n want false)) ∧ Below w.heap.size w x := by
  have hb : Below w.heap.size w ((w.alloc (.cells #[.bool want] 4)).alloc (.cells #[.bool false] 4)) := (new_alloc w _).alloc (by simp) _
  have hJ : BoolAt w.heap.size want ((w.alloc (.cells #[.bool want] 4)).alloc (.cells #[.bool false] 4)) := BoolAt.on (x := w.alloc (.cells #[.bool want] 4)) (heap_alloc_new w _) (new_alloc _ _)
  have hK : BoolAt (w.heap.size + 1) false ((w.alloc (.cells #[.bool want] 4)).alloc (.cells #[.bool false] 4)) := by
    have := heap_alloc_new (w.alloc (.cells #[.bool want] 4)) (.cells #[.bool false] 4)
    simpa [BoolAt] using this
  have hC := each_any (direct_sees w w.heap.size (w.heap.size + 1) want (Nat.le_refl _) (by omega) (by omega)) (size n) n u false false 0 _ (Nat.le_refl _) hz hg hn hb ⟨hJ, hK⟩
  rw [seen_direct want n false false, Bool.false_or] at hC
  have HC := Lib.hid hC
  have HB := Lib.hid hb
  clear hn hb hJ hK hC
  go_enter Try.func14, Try.ntmps14
  go_wp2_with fail
  refine HC.out.mono ?_
  rintro e x ⟨rfl, ⟨-, hK⟩, ha⟩
  obtain ⟨c0, -⟩ := hK.cell
  have HX := Lib.hid (HB.out.trans (ha.turns.below HB.out.size fun k hk => by subst hk; omega))
  clear hK ha
  go_wp2_with fail
  go_ret
  exact ⟨rfl, HX.out⟩

theorem Plain_any (n : Nd) (u : Value) (w : World) (hn : IsExpr 0 w n u) :
    Calls Try.prog 16 #[u] w fun e x => e = .returned (.bool (isThis n)) ∧ Below w.heap.size w x := by
  have HC := Lib.hid (plain_any n u w hn)
  clear hn
  go_enter Try.func16, Try.ntmps16
  go_wp2_with fail
  refine HC.out.mono ?_
  rintro e x ⟨rfl, hx⟩
  go_wp2_with fail
  go_ret
  exact ⟨rfl, hx⟩
end Tr
end Go.Proofs.Ytleoknhnglbgoaa
