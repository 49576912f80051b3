/-
  Layer 4 (knot): what a knot holds; a number's digits behind its bytes. What is asked: the library's table of powers of ten.
  Layer 4 (knot): what ties bytes, numbers, texts and marks to a knot, and what Bytes answers. What is asked: the library's table of powers of ten.
  Layer 4 (knot): what ties bytes, numbers, texts and marks to a knot, and what Bytes answers. What is asked: the library's table of powers of ten.
  Layer 4 (knot): marks, subjects and tuples tied; what Bytes answers. What is asked: the library's table of powers of ten.
-/
import Derived.Test.YtopncohhagebbaaDoorMgMem
import Derived.Test.YtopncohhagebbaaDoorKnotPure
import Derived.Lib.AppendIntMem
import Derived.Lib.OwnKind
import Derived.Lib.Slices
import Derived.OwnWalk
import Derived.CellFam
import Derived.BigGuard
namespace Go.Proofs.YtopncohhagebbaaDoor
open Go.RowKit Go.Sort
namespace Knot

theorem infoByte : (Tryd.prog.info? 5).map (fun i => (i.zero, i.size, i.bytes)) = some (some (.int .u8 0), 1, 1) := by kernel_rfl
theorem isBytes : ∃ i, IsBytes Tryd.prog 22 5 i := by
  obtain ⟨i, h0, h1, h2, h3⟩ := info_parts infoByte
  exact ⟨i, Tryd.underlying22, h0, h1, h2, h3⟩

/-- The library's table, whatever is done from block B on. -/
abbrev Tab (B : Nat) (w : World) : Prop := Lib.TabBelow Tryd.prog B w "internal/strconv.uint64pow10" .u64 Lib.pow10Tab

/-! ### digits -/
theorem dec_digits : ∀ n : Nat, Lib.decDigits n = digits n := by
  intro n
  induction n using Nat.strongRecOn with
  | ind n ih =>
    by_cases h : n < 10
    · rw [digits_low h, Lib.decDigits, dif_pos h, dig, Nat.mod_eq_of_lt h]
    · rw [digits_high h, Lib.decDigits, dif_neg h, ih (n / 10) (by omega), dig]
theorem len_digits {n : Nat} (h : n < 18446744073709551616) : (digits n).length ≤ 20 := digits_len 19 n (by omega)

/-! ### a number behind bytes that the call owns -/
set_option maxHeartbeats 6400000 in
set_option maxRecDepth 100000 in
theorem uint_small (B n u : Nat) (hu : u < 100) (sv : Value) (xs : List Value) (w : World) (hown : w.ownsRow B 5 1 sv n xs) (hB : B ≤ w.heap.size) (hs : n ≤ 90000000) :
    Calls Tryd.prog 75 #[sv, .int .u64 u, .int .i64 10] w fun e w' => ∃ v', e = .returned v' ∧ w'.ownsRow B 5 1 v' (n + (Lib.decDigits u).length) (xs ++ Lib.byteCells (Lib.decDigits u)) ∧ w.grownBy w' sv.ownBlock ∧ NewRow w sv v' := by
  obtain ⟨i0, T⟩ := isBytes
  have hlen : (Lib.decDigits u).length ≤ 20 := by rw [dec_digits]; exact len_digits (by omega)
  have hsz : (⟨(Lib.decDigits u).toArray⟩ : ByteArray).size = (Lib.decDigits u).length := by simp [ByteArray.size]
  go_enter Tryd.func75, Tryd.ntmps75
  go_wp2_with (first
    | (go_at_call 82; refine (Tryd.internal_strconv_small u hu _).mono ?_; rintro e w' ⟨rfl, rfl⟩)
    | (at_builtin; refine walk_text T Tryd.underlying9 rfl _ _ rfl rfl rfl hown hB (by rw [hsz]; omega) ?_))
  intro v' w1 hown' hgrow hnew
  go_wp2
  go_ret
  refine ⟨v', rfl, ?_, hgrow, hnew⟩
  first | exact hown' | (rw [hsz] at hown'; exact hown')

theorem hal : Tryd.prog.arrayLen 132 = 24 := by simp [Program.arrayLen, Tryd.underlying132]
/-- The first places of a new array, cut out of it. -/
theorem cut_array (W : World) (b k : Nat) (hk : k ≤ 20) : (Instr.sliceAt 132 (.pointer (some ⟨b, 0, none⟩)) none (some (.int .i64 (k : Int))) none).run Tryd.prog W = .ok (.slice (some ⟨b, 0, none⟩) k 24) W := by
  rw [run_sliceAt_array_h W 132 ⟨b, 0, none⟩ (by simp [Program.arrayLen, Program.elem, Tryd.underlying132]) .i64 (k : Int) (by omega) (by rw [hal]; omega)]
  go_simp

set_option maxHeartbeats 12800000 in
set_option maxRecDepth 100000 in
theorem uint_big (B n u : Nat) (hu : 100 ≤ u) (hu64 : u < 18446744073709551616) (sv : Value) (xs : List Value) (w : World) (hown : w.ownsRow B 5 1 sv n xs) (hB : B ≤ w.heap.size) (hs : n ≤ 90000000)
    (htab : Lib.TabIs Tryd.prog w "internal/strconv.uint64pow10" .u64 Lib.pow10Tab) :
    Calls Tryd.prog 75 #[sv, .int .u64 u, .int .i64 10] w fun e w' => ∃ v', e = .returned v' ∧ w'.ownsRow B 5 1 v' (n + (Lib.decDigits u).length) (xs ++ Lib.byteCells (Lib.decDigits u)) ∧ w.grownBy w' sv.ownBlock ∧ NewRow w sv v' := by
  obtain ⟨i0, T⟩ := isBytes
  have hu1 : 1 ≤ u := by omega
  have hnd20 : Lib.nDigits u ≤ 20 := by rw [← Lib.decDigits_length, dec_digits]; exact len_digits hu64
  have hsl := fun W => cut_array W w.heap.size (Lib.nDigits u) hnd20
  have hH0 := Lib.holds_zero0 w 132 (Lib.nDigits u) (by omega)
  have hfmt := Tryd.internal_strconv_formatBase10 w.heap.size 0 24 u (Array.replicate (Lib.nDigits u) 0) (w.alloc (.cells Lib.zeros24 132)) hH0 (by rw [Array.size_replicate]; exact Lib.lt_pow_nDigits u) hu64 (by rw [Array.size_replicate]; omega)
  rw [Array.size_replicate] at hfmt
  have HH0 := Lib.hid hH0
  have iu : (100 : Int) ≤ (u : Int) := by omega
  have HT := Lib.hid T
  clear hH0 T
  go_enter Tryd.func75, Tryd.ntmps75
  go_wp2_with (go_at_call 83; refine (Tryd.internal_strconv_numDigits u hu1 hu64 _ (Lib.tabIs_alloc htab _)).mono ?_; rintro e w' ⟨rfl, rfl⟩)
  refine hfmt.mono ?_
  rintro e w' ⟨rfl, k, v', dk, rfl, hF⟩
  have hcells : ∀ j u', (Lib.byteCells (Lib.decDigits u))[j]? = some u' → ((putRow (fun (b : UInt8) => Value.int .u8 (b.toNat : Int)) (w.alloc (.cells Lib.zeros24 132)) w.heap.size 0 dk).drewN k).cell? ((⟨w.heap.size, 0, none⟩ : Addr).add j) = some u' := by
    intro j u' hj
    have hjl : j < (Lib.decDigits u).length := by
      have h5 := (List.getElem?_eq_some_iff.1 hj).1
      rwa [Lib.byteCells_length] at h5
    have e5 : (Lib.byteCells (Lib.decDigits u))[j]? = some (Value.int .u8 ((Lib.decDigits u)[j].toNat : Int)) := by simp [Lib.byteCells, hjl]
    rw [e5] at hj
    cases hj
    rw [Lib.row_is_numeral hF j hjl, Lib.add_plain, World.cell?_drewN]
    exact cell?_putRow (fun (b : UInt8) => Value.int .u8 (b.toNat : Int)) _ w.heap.size 0 _ dk HH0.out (by rw [hF.size, Array.size_replicate]) j (by rw [hF.size]; rw [Lib.decDigits_length] at hjl; exact hjl)
  obtain ⟨os, eo⟩ := Lib.fin_at w (.cells Lib.zeros24 132) dk k 0
  have hown2 : ((putRow (fun (b : UInt8) => Value.int .u8 (b.toNat : Int)) (w.alloc (.cells Lib.zeros24 132)) w.heap.size 0 dk).drewN k).ownsRow B 5 1 sv n xs := by rw [eo]; exact Lib.ownsRow_grow hown k os
  have hb2 : Below w.heap.size w ((putRow (fun (b : UInt8) => Value.int .u8 (b.toNat : Int)) (w.alloc (.cells Lib.zeros24 132)) w.heap.size 0 dk).drewN k) := by rw [eo]; exact Lib.below_grow w.heap.size w (Nat.le_refl _) k os
  generalize (putRow (fun (b : UInt8) => Value.int .u8 (b.toNat : Int)) (w.alloc (.cells Lib.zeros24 132)) w.heap.size 0 dk).drewN k = W2 at hcells hown2 hb2 ⊢
  clear eo HH0 hfmt
  have hsz2 := hb2.size
  have hdl : (Lib.byteCells (Lib.decDigits u)).length = Lib.nDigits u := by rw [Lib.byteCells_length, Lib.decDigits_length]
  have hone : ∀ u' ∈ Lib.byteCells (Lib.decDigits u), u'.oneCell' = true := by
    intro u' hu'
    simp only [Lib.byteCells, List.mem_map] at hu'
    obtain ⟨b, _, rfl⟩ := hu'
    rfl
  have HD := Lib.hid hdl
  clear hdl
  go_wp2_with (at_builtin; refine walk_row HT.out rfl _ _ rfl rfl rfl hown2 (by omega) HD.out hcells hone (by omega) ?_)
  intro v2 w3 hown' hgrow hnew
  go_wp2
  go_ret
  refine ⟨v2, rfl, ?_, ⟨hgrow.os.trans hb2.os, hgrow.tape.trans hb2.tape, hgrow.output.trans hb2.output, by have := hgrow.size; omega, fun j hj hn => (hgrow.block j (by omega) hn).trans (hb2.block j hj)⟩, fun j hj => ?_⟩
  · rw [Lib.decDigits_length]
    exact hown'
  · rcases hnew j hj with h | h
    · exact .inl h
    · exact .inr (by omega)

/-- A number's digits behind bytes that the call owns. -/
theorem int_any (B n u : Nat) (hu : u < 9223372036854775808) (sv : Value) (xs : List Value) (w : World) (hown : w.ownsRow B 5 1 sv n xs) (hB : B ≤ w.heap.size) (hs : n ≤ 90000000) (htab : Tab B w) :
    Calls Tryd.prog 61 #[sv, .int .i64 u, .int .i64 10] w fun e w' => ∃ v', e = .returned v' ∧ w'.ownsRow B 5 1 v' (n + (digits u).length) (xs ++ Lib.byteCells (digits u)) ∧ w.grownBy w' sv.ownBlock ∧ NewRow w sv v' := by
  have h1 : Calls Tryd.prog 75 #[sv, .int .u64 u, .int .i64 10] w fun e w' => ∃ v', e = .returned v' ∧ w'.ownsRow B 5 1 v' (n + (digits u).length) (xs ++ Lib.byteCells (digits u)) ∧ w.grownBy w' sv.ownBlock ∧ NewRow w sv v' := by
    rw [← dec_digits]
    by_cases h : u < 100
    · exact uint_small B n u h sv xs w hown hB hs
    · exact uint_big B n u (by omega) (by omega) sv xs w hown hB hs htab.here
  have H1 := Lib.hid h1
  clear h1 hown htab
  have h2 : Calls Tryd.prog 70 #[sv, .int .i64 u, .int .i64 10] w fun e w' => ∃ v', e = .returned v' ∧ w'.ownsRow B 5 1 v' (n + (digits u).length) (xs ++ Lib.byteCells (digits u)) ∧ w.grownBy w' sv.ownBlock ∧ NewRow w sv v' := by
    go_enter Tryd.func70, Tryd.ntmps70
    go_wp2_with (go_at_call 75; refine H1.out.mono ?_; rintro e w' ⟨v', rfl, h⟩)
    go_ret
    exact ⟨v', rfl, h⟩
  have H2 := Lib.hid h2
  clear h2 H1
  go_enter Tryd.func61, Tryd.ntmps61
  go_wp2_with (go_at_call 70; refine H2.out.mono ?_; rintro e w' ⟨v', rfl, h⟩)
  go_ret
  exact ⟨v', rfl, h⟩
end Knot
end Go.Proofs.YtopncohhagebbaaDoor

namespace Go.Proofs.YtopncohhagebbaaDoor
open Go.RowKit Go.Sort
namespace Knot

/-- The blocks that a knot reaches: its own, and its bytes' row. -/
def Foot (K : Nat) (v : Value) (k : Nat) : Prop := k = K ∨ v.ownBlock = some k
/-- A knot in block K: v is its slice, l is what it tied. -/
def Kn (B : Nat) (w : World) (K : Nat) (v : Value) (l : List UInt8) : Prop :=
  B ≤ K ∧ w.heap[K]? = some (.cells #[v] 80 (0, 0)) ∧ w.ownsRow B 5 1 v l.length (Lib.byteCells l)
/-- What a call on a knot does. -/
structure KStep (K : Nat) (v v' : Value) (w x : World) : Prop where
  turns : Turns (Foot K v) w x
  new : NewRow w v v'

section
variable {B K : Nat} {w x y : World} {v v' u : Value} {l : List UInt8}
theorem Kn.lt (h : Kn B w K v l) : K < w.heap.size := (Array.getElem?_eq_some_iff.1 h.2.1).1
theorem Kn.base (h : Kn B w K v l) : B ≤ w.heap.size := Nat.le_of_lt (Nat.lt_of_le_of_lt h.1 h.lt)
theorem Kn.own (h : Kn B w K v l) : w.ownsRow B 5 1 v l.length (Lib.byteCells l) := h.2.2
theorem Kn.cell (h : Kn B w K v l) : w.cell? ⟨K, 0, none⟩ = some v := by rw [Lib.cell_of_heap h.2.1]; rfl
theorem Kn.frozen (h : Kn B w K v l) : w.frozen? ⟨K, 0, none⟩ = false := Lib.frozen_of_heap h.2.1 0
theorem Kn.ne (h : Kn B w K v l) : v.ownBlock ≠ some K := fun e => by
  obtain ⟨c, fz, hc⟩ := Lib.ownsRow_kind h.own K e
  have := h.2.1.symm.trans hc
  simp at this
theorem Kn.foot (h : Kn B w K v l) : ∀ k, Foot K v k → B ≤ k ∧ k < w.heap.size := by
  rintro k (rfl | e)
  · exact ⟨h.1, h.lt⟩
  · exact h.own.lt k e
theorem own_turn {b n : Nat} {e : TypeId} {xs : List Value} {F : Nat → Prop} (h : w.ownsRow b e 1 v n xs) (ht : Turns F w x) (hF : ∀ k, v.ownBlock = some k → ¬ F k) : x.ownsRow b e 1 v n xs := by
  refine ⟨h.1, ?_⟩
  rcases h.2 with hn | ⟨g, cap, cur, rfl, hb, hg, r⟩
  · exact .inl hn
  · exact .inr ⟨g, cap, cur, rfl, hb, (ht.block g (Array.getElem?_eq_some_iff.1 hg).1 (hF g rfl)).trans hg, r⟩
/-- A knot stays what it is while others turn. -/
theorem Kn.keep {F : Nat → Prop} (h : Kn B w K v l) (ht : Turns F w x) (hF : ∀ k, Foot K v k → ¬ F k) : Kn B x K v l :=
  ⟨h.1, (ht.block K h.lt (hF K (.inl rfl))).trans h.2.1, own_turn h.own ht fun k hk => hF k (.inr hk)⟩
theorem Kn.keep_below (h : Kn B w K v l) (hb : Below w.heap.size w x) : Kn B x K v l := h.keep (F := fun _ => False) (Turns.of_below hb) fun _ _ h => h
theorem Kn.alloc (h : Kn B w K v l) (o : Obj) : Kn B (w.alloc o) K v l := h.keep_below ((Below.refl _ _).alloc (Nat.le_refl _) o)
theorem KStep.refl (K : Nat) (v : Value) (w : World) : KStep K v v w w := ⟨Turns.refl _ _, NewRow.refl _ _⟩
theorem KStep.below (h : KStep K v v' w x) (hk : Kn B w K v l) : Below B w x := h.turns.below hk.base fun k hf => (hk.foot k hf).1
theorem KStep.trans {v1 v2 : Value} (h : KStep K v v1 w x) (h2 : KStep K v1 v2 x y) : KStep K v v2 w y := by
  refine ⟨h.turns.trans h2.turns ?_, fun k hk => ?_⟩
  · rintro k hk (rfl | e)
    · exact .inl rfl
    · rcases h.new k e with h' | h'
      · exact .inr h'
      · omega
  · rcases h2.new k hk with h' | h'
    · exact h.new k h'
    · have := h.turns.size
      exact .inr (by omega)
theorem KStep.after_below (hb : Below w.heap.size w x) (h : KStep K v v' x y) : KStep K v v' w y :=
  ⟨Turns.after_below hb h.turns, fun k hk => (h.new k hk).imp id fun h' => Nat.le_trans hb.size h'⟩
theorem KStep.then_below (h : KStep K v v' w x) (hb : Below x.heap.size x y) : KStep K v v' w y := ⟨h.turns.then_below hb, h.new⟩
/-- Two knots that share nothing go on sharing nothing. -/
theorem apart_step {K2 : Nat} {v2 : Value} {l2 : List UInt8} (h : Kn B w K2 v2 l2) (hs : KStep K v v' w x) (hd : ∀ k, Foot K2 v2 k → ¬ Foot K v k) : ∀ k, Foot K2 v2 k → ¬ Foot K v' k := by
  rintro k hk (rfl | e)
  · exact hd _ hk (.inl rfl)
  · rcases hs.new k e with h' | h'
    · exact hd _ hk (.inr h')
    · have := (h.foot k hk).2
      omega

/-- An append, and the store of what it answers. -/
theorem Kn.put {m : List UInt8} (h : Kn B w K v l) (hx : x.ownsRow B 5 1 v' (l.length + m.length) (Lib.byteCells l ++ Lib.byteCells m)) (hg : w.grownBy x v.ownBlock) (hn : NewRow w v v') :
    Kn B (x.setCell ⟨K, 0, none⟩ v') K v' (l ++ m) ∧ KStep K v v' w (x.setCell ⟨K, 0, none⟩ v') := by
  have hK : x.heap[K]? = some (.cells #[v] 80 (0, 0)) := (hg.block K h.lt fun e => h.ne e.symm).trans h.2.1
  have hne : v'.ownBlock ≠ some K := fun e => by
    rcases hn K e with h' | h'
    · exact h.ne h'
    · have := h.lt
      omega
  have t1 : Turns (fun k => k = K) x (x.setCell ⟨K, 0, none⟩ v') := (Turns.refl _ _).setCell (by rfl) _
  refine ⟨⟨h.1, ?_, ?_⟩, (Turns.of_grown hg fun k hk => .inr hk).trans t1 fun k _ e => .inl e, hn⟩
  · rw [heap_setCell_same x K 0 #[v] _ _ hK]
    rfl
  · have h2 := own_turn hx t1 fun k hk e => hne (by rw [← e]; exact hk)
    rw [List.length_append, Lib.byteCells_append]
    exact h2
theorem own_slice {b n : Nat} {e : TypeId} {xs : List Value} (h : w.ownsRow b e 1 v n xs) : ∃ ao c, v = .slice ao n c := by
  rcases h.2 with ⟨rfl, rfl⟩ | ⟨g, cap, cur, rfl, _⟩
  · exact ⟨_, _, rfl⟩
  · exact ⟨_, _, rfl⟩
/-- Behind the append the knot's own cell is what it was. -/
theorem Kn.still (h : Kn B w K v l) (hg : w.grownBy x v.ownBlock) : x.cell? ⟨K, 0, none⟩ = some v ∧ x.frozen? ⟨K, 0, none⟩ = false := by
  have e : x.heap[K]? = w.heap[K]? := hg.block K h.lt fun e => h.ne e.symm
  exact ⟨(World.cell?_of_block (w := w) (a := ⟨K, 0, none⟩) e).trans h.cell, (World.frozen?_of_block (w := w) (a := ⟨K, 0, none⟩) e).trans h.frozen⟩
theorem Kn.put_eq {m : List UInt8} {n : Nat} {xs : List Value} (h : Kn B w K v l) (hx : x.ownsRow B 5 1 v' n xs) (hn : n = l.length + m.length) (hxs : xs = Lib.byteCells (l ++ m)) (hg : w.grownBy x v.ownBlock) (hr : NewRow w v v') :
    Kn B (x.setCell ⟨K, 0, none⟩ v') K v' (l ++ m) ∧ KStep K v v' w (x.setCell ⟨K, 0, none⟩ v') := by
  subst hn
  rw [hxs, Lib.byteCells_append] at hx
  exact h.put hx hg hr
/-- The cell of a new list of one. -/
theorem one_new {W : World} {b : Nat} {c : Value} {T : TypeId} (hb : b = W.heap.size) : ∀ j u, [c][j]? = some u → (W.alloc (.cells #[c] T)).cell? ((⟨b, 0, none⟩ : Addr).add j) = some u := by
  subst hb
  intro j u hj
  match j, hj with
  | 0, hj => simp at hj; subst hj; simp [Addr.add]
theorem one_oneCell (l : List UInt8) : ∀ u ∈ Lib.byteCells l, u.oneCell' = true := by
  intro u hu
  simp only [Lib.byteCells, List.mem_map] at hu
  obtain ⟨b, _, rfl⟩ := hu
  rfl
end
end Knot
end Go.Proofs.YtopncohhagebbaaDoor

namespace Go.Proofs.YtopncohhagebbaaDoor
open Go.RowKit Go.Sort
namespace Knot

abbrev ptr (K : Nat) : Value := .pointer (some ⟨K, 0, none⟩)
/-- What a call answers that ties m. -/
def Tied (B K : Nat) (v : Value) (l m : List UInt8) (w : World) (e : Ending) (x : World) : Prop :=
  e = .returned (.tuple #[]) ∧ ∃ v', Kn B x K v' (l ++ m) ∧ KStep K v v' w x

theorem new_any (w : World) : Calls Tryd.prog 19 #[] w fun e x => ∃ K, e = .returned (ptr K) ∧ K = w.heap.size ∧ Kn w.heap.size x K (.slice none 0 0) [] ∧ Below w.heap.size w x := by
  go_enter Tryd.func19, Tryd.ntmps19
  go_wp2
  go_ret
  exact ⟨_, rfl, rfl, ⟨Nat.le_refl _, by rw [heap_alloc_new], World.ownsRow_nil _ _ _ _⟩, (Below.refl _ _).alloc (Nat.le_refl _) _⟩

set_option maxHeartbeats 4000000 in
set_option maxRecDepth 100000 in
theorem num_any (B K u : Nat) (v : Value) (l : List UInt8) (w : World) (h : Kn B w K v l) (hu : u < 9223372036854775808) (hs : l.length ≤ 80000000) (htab : Tab B w) :
    Calls Tryd.prog 50 #[ptr K, .int .i64 u] w (Tied B K v l (number u) w) := by
  obtain ⟨i0, T⟩ := isBytes
  have hd := len_digits (n := u) (by omega)
  have c0 := h.cell
  have f0 := h.frozen
  have H := Lib.hid h
  have HI := Lib.hid (int_any B l.length u hu v (Lib.byteCells l) w h.own h.base (by omega) htab)
  clear htab h
  go_enter Tryd.func50, Tryd.ntmps50
  go_wp2_with fail
  refine HI.out.mono ?_
  rintro e w1 ⟨v1, rfl, o1, g1, n1⟩
  obtain ⟨a1, p1, rfl⟩ := own_slice o1
  obtain ⟨k1, s1⟩ := H.out.put o1 g1 n1
  obtain ⟨c1, f1⟩ := H.out.still g1
  have K1 := Lib.hid (And.intro k1 s1)
  clear k1 s1 o1 g1 n1
  go_wp2_with (at_builtin; refine walk_row T rfl _ _ rfl rfl rfl (K1.out.1.alloc _).own (K1.out.1.alloc _).base (m := 1) (news := [.int .u8 59]) rfl (one_new (by simp)) (by intro u' hu'; simp at hu'; subst hu'; rfl) (by rw [List.length_append]; omega) ?_)
  intro v2 y o2 g2 n2
  obtain ⟨a2, p2, rfl⟩ := own_slice o2
  obtain ⟨k2, s2⟩ := (K1.out.1.alloc _).put_eq (m := [59]) o2 (by simp) (by simp [Lib.byteCells]) g2 n2
  obtain ⟨c2, f2⟩ := (K1.out.1.alloc _).still g2
  have K2 := Lib.hid (And.intro k2 (K1.out.2.trans (s2.after_below ((Below.refl _ _).alloc (Nat.le_refl _) _))))
  clear k2 s2 o2 g2 n2 K1
  go_wp2
  go_end0
  refine ⟨rfl, _, ?_, K2.out.2⟩
  rw [number, ← List.append_assoc]
  exact K2.out.1

theorem Tied.mono_eq {B K : Nat} {v : Value} {l m m' : List UInt8} {w x : World} {e : Ending} (h : Tied B K v l m w e x) (hm : m = m') : Tied B K v l m' w e x := hm ▸ h

set_option maxHeartbeats 4000000 in
set_option maxRecDepth 100000 in
/-- Number: what is told, and what is tied. -/
theorem number_good (B K u : Nat) (v : Value) (l : List UInt8) (w : World) (h : Kn B w K v l) (hu : u ≤ 9007199254740992) (hs : l.length ≤ 80000000) (htab : Tab B w) :
    Calls Tryd.prog 33 #[ptr K, .int .i64 u] w fun e x => e = .returned (.int .i64 0) ∧ ∃ v', Kn B x K v' (l ++ number u) ∧ KStep K v v' w x := by
  have HI := Lib.hid (num_any B K u v l w h (by omega) hs htab)
  clear htab h
  go_enter Tryd.func33, Tryd.ntmps33
  go_wp2_with fail
  refine HI.out.mono ?_
  rintro e w1 ⟨rfl, h1⟩
  go_wp2
  go_ret
  exact ⟨rfl, h1⟩
theorem number_bad (K : Nat) (u : Int) (w : World) (hu : u < 0 ∨ 9007199254740992 < u) :
    Calls Tryd.prog 33 #[ptr K, .int .i64 u] w fun e x => e = .returned (.int .i64 1) ∧ x = w := by
  rcases hu with hu | hu
  · go_enter Tryd.func33, Tryd.ntmps33
    go_wp2
    go_ret
    exact ⟨rfl, rfl⟩
  · have h0 : ¬ u < 0 := by omega
    go_enter Tryd.func33, Tryd.ntmps33
    go_wp2
    go_ret
    exact ⟨rfl, rfl⟩

set_option maxHeartbeats 4000000 in
set_option maxRecDepth 100000 in
theorem text_any (B K : Nat) (v : Value) (l : List UInt8) (s : ByteArray) (w : World) (h : Kn B w K v l) (hs : l.length ≤ 70000000) (hz : s.size ≤ 4000000) (htab : Tab B w) :
    Calls Tryd.prog 34 #[ptr K, .string s] w (Tied B K v l (textB s.data.toList) w) := by
  obtain ⟨i0, T⟩ := isBytes
  have hd := len_digits (n := s.size) (by omega)
  have hn := num_any B K s.size v l w h (by omega) (by omega) htab
  have HN := Lib.hid hn
  clear htab h hn
  go_enter Tryd.func34, Tryd.ntmps34
  go_wp2_with fail
  refine HN.out.mono ?_
  rintro e w1 ⟨rfl, v1, k1, s1⟩
  have c1 := k1.cell
  have f1 := k1.frozen
  have hl1 : (l ++ number s.size).length ≤ 70000021 := by rw [List.length_append, number, List.length_append, List.length_singleton]; omega
  have K1 := Lib.hid (And.intro k1 (And.intro s1 hl1))
  clear k1 s1 hl1 HN hd
  go_wp2_with (at_builtin; refine walk_text T Tryd.underlying9 rfl _ _ rfl rfl rfl K1.out.1.own K1.out.1.base (by have := K1.out.2.2; omega) ?_)
  intro v2 w2 o2 g2 n2
  obtain ⟨a2, p2, rfl⟩ := own_slice o2
  obtain ⟨k2, s2⟩ := K1.out.1.put_eq (m := s.data.toList) o2 (by rw [← Lib.size_eq]; simp) (by simp [Lib.byteCells]) g2 n2
  obtain ⟨c2, f2⟩ := K1.out.1.still g2
  have hl2 : (l ++ number s.size ++ s.data.toList).length ≤ 74000021 := by have := K1.out.2.2; rw [List.length_append, ← Lib.size_eq]; omega
  have K2 := Lib.hid (And.intro k2 (And.intro (K1.out.2.1.trans s2) hl2))
  clear k2 s2 o2 g2 n2 K1 hl2 c1 f1
  go_wp2_with (at_builtin; refine walk_row T rfl _ _ rfl rfl rfl (K2.out.1.alloc _).own (K2.out.1.alloc _).base (m := 1) (news := [.int .u8 44]) rfl (one_new (by simp)) (by intro u' hu'; simp at hu'; subst hu'; rfl) (by have := K2.out.2.2; omega) ?_)
  intro v3 y o3 g3 n3
  obtain ⟨a3, p3, rfl⟩ := own_slice o3
  obtain ⟨k3, s3⟩ := (K2.out.1.alloc _).put_eq (m := [44]) o3 (by rw [List.length_append, List.length_append, ← Lib.size_eq, List.length_singleton]; omega) (by simp [Lib.byteCells]) g3 n3
  obtain ⟨c3, f3⟩ := (K2.out.1.alloc _).still g3
  have K3 := Lib.hid (And.intro k3 (K2.out.2.1.trans (s3.after_below ((Below.refl _ _).alloc (Nat.le_refl _) _))))
  clear k3 s3 o3 g3 n3 K2
  go_wp2
  go_end0
  refine ⟨rfl, _, ?_, K3.out.2⟩
  rw [textB, ← Lib.size_eq, ← List.append_assoc, ← List.append_assoc]
  exact K3.out.1
end Knot
end Go.Proofs.YtopncohhagebbaaDoor

namespace Go.Proofs.YtopncohhagebbaaDoor
open Go.RowKit Go.Sort
namespace Knot

set_option maxHeartbeats 4000000 in
set_option maxRecDepth 100000 in
theorem mark_any (B K : Nat) (v : Value) (l : List UInt8) (y : Bool) (w : World) (h : Kn B w K v l) (hs : l.length ≤ 80000000) :
    Calls Tryd.prog 62 #[ptr K, .bool y] w (Tied B K v l (markB y) w) := by
  obtain ⟨i0, T⟩ := isBytes
  have c0 := h.cell
  have f0 := h.frozen
  have H := Lib.hid (And.intro h hs)
  clear h hs
  cases y with
  | false =>
    go_enter Tryd.func62, Tryd.ntmps62
    go_wp2_with (at_builtin; refine walk_row T rfl _ _ rfl rfl rfl (H.out.1.alloc _).own (H.out.1.alloc _).base (m := 1) (news := [.int .u8 45]) rfl (one_new (by simp)) (by intro u' hu'; simp at hu'; subst hu'; rfl) (by have := H.out.2; omega) ?_)
    intro v1 w1 o1 g1 n1
    obtain ⟨a1, p1, rfl⟩ := own_slice o1
    obtain ⟨k1, s1⟩ := (H.out.1.alloc _).put_eq (m := [45]) o1 rfl (by simp [Lib.byteCells]) g1 n1
    obtain ⟨c1, f1⟩ := (H.out.1.alloc _).still g1
    have K1 := Lib.hid (And.intro k1 (s1.after_below ((Below.refl _ _).alloc (Nat.le_refl _) _)))
    clear k1 s1 o1 g1 n1
    go_wp2
    go_end0
    exact ⟨rfl, _, K1.out.1, K1.out.2⟩
  | true =>
    go_enter Tryd.func62, Tryd.ntmps62
    go_wp2_with (at_builtin; refine walk_row T rfl _ _ rfl rfl rfl (H.out.1.alloc _).own (H.out.1.alloc _).base (m := 1) (news := [.int .u8 43]) rfl (one_new (by simp)) (by intro u' hu'; simp at hu'; subst hu'; rfl) (by have := H.out.2; omega) ?_)
    intro v1 w1 o1 g1 n1
    obtain ⟨a1, p1, rfl⟩ := own_slice o1
    obtain ⟨k1, s1⟩ := (H.out.1.alloc _).put_eq (m := [43]) o1 rfl (by simp [Lib.byteCells]) g1 n1
    obtain ⟨c1, f1⟩ := (H.out.1.alloc _).still g1
    have K1 := Lib.hid (And.intro k1 (s1.after_below ((Below.refl _ _).alloc (Nat.le_refl _) _)))
    clear k1 s1 o1 g1 n1
    go_wp2
    go_end0
    exact ⟨rfl, _, K1.out.1, K1.out.2⟩

/-! ### Bytes -/
theorem empty_row (w : World) : (w.alloc (.cells #[] 5)).ownsRow w.heap.size 5 1 (.slice (some ⟨w.heap.size, 0, none⟩) 0 0) 0 [] := World.ownsRow_made w #[] 0 (Nat.le_refl _) (by unfold maxLen; omega) rfl

set_option maxHeartbeats 4000000 in
set_option maxRecDepth 100000 in
theorem clone_bytes (B g cap : Nat) (l : List UInt8) (w : World) (h : w.ownsRow B 5 1 (.slice (some ⟨g, 0, none⟩) l.length cap) l.length (Lib.byteCells l)) (hs : l.length ≤ 90000000) :
    Calls Tryd.prog 37 #[.slice (some ⟨g, 0, none⟩) l.length cap] w fun e x => ∃ v, e = .returned v ∧ x.ownsRow w.heap.size 5 1 v l.length (Lib.byteCells l) ∧ Below w.heap.size w x := by
  obtain ⟨i0, T⟩ := isBytes
  have hc := h.cells (g := g) rfl
  have hlt := (h.lt g rfl).2
  have he : ∀ W : World, (binOp .eql 22 (.slice (some ⟨g, 0, none⟩) l.length cap) (.slice none 0 0)).run Tryd.prog W = .ok (.bool false) W := fun _ => rfl
  have H := Lib.hid (And.intro h hs)
  clear h hs
  go_enter Tryd.func37, Tryd.ntmps37
  go_wp2_with (at_builtin; refine walk_row T rfl _ _ rfl rfl rfl (empty_row w) (by simp) (m := l.length) (news := Lib.byteCells l) (by rw [Lib.byteCells_length]) (fun j u hj => (((Below.refl w.heap.size w).alloc (Nat.le_refl _) _).cell (by rw [Lib.add_plain]; exact hlt)).trans (hc j u hj)) (one_oneCell l) (by have := H.out.2; omega) ?_)
  intro v1 w1 o1 g1 n1
  obtain ⟨a1, p1, rfl⟩ := own_slice o1
  have b1 := ((Below.refl w.heap.size w).alloc (Nat.le_refl _) (.cells #[] 5)).grown g1 (by simp) (fun k hk => by have : w.heap.size = k := Option.some.inj hk; omega)
  go_wp2
  go_ret
  exact ⟨_, rfl, o1, b1⟩

/-- What Bytes answers: its own memory. -/
theorem bytes_any (B K : Nat) (v : Value) (l : List UInt8) (w : World) (h : Kn B w K v l) (h0 : l ≠ []) (hs : l.length ≤ 90000000) :
    Calls Tryd.prog 22 #[ptr K] w fun e x => ∃ g cap, e = .returned (.slice (some ⟨g, 0, none⟩) l.length cap) ∧ x.ownsRow w.heap.size 5 1 (.slice (some ⟨g, 0, none⟩) l.length cap) l.length (Lib.byteCells l) ∧ Below w.heap.size w x := by
  have c0 := h.cell
  have ho := h.own
  have hl : 0 < l.length := List.length_pos_iff.2 h0
  rcases ho.2 with ⟨-, e0⟩ | ⟨g, cap, cur, rfl, -⟩
  · omega
  have HC := Lib.hid (clone_bytes B g cap l w ho hs)
  have HL := Lib.hid hl
  clear h ho hl hs h0
  go_enter Tryd.func22, Tryd.ntmps22
  go_wp2_with fail
  refine HC.out.mono ?_
  rintro e w1 ⟨v1, rfl, o1, b1⟩
  have hl := HL.out
  rcases o1.2 with ⟨-, e0⟩ | ⟨g1, p1, cur, rfl, -⟩
  · omega
  go_wp2
  go_ret
  exact ⟨_, _, rfl, o1, b1⟩
/-- Bytes that are owned, as a text. -/
theorem conv_bytes {b g cap : Nat} {l : List UInt8} {w : World} (h : w.ownsRow b 5 1 (.slice (some ⟨g, 0, none⟩) l.length cap) l.length (Lib.byteCells l)) :
    (Go.convert 22 9 (.slice (some ⟨g, 0, none⟩) l.length cap)).run Tryd.prog w = .ok (.string (Who.bs l)) w :=
  run_convert_bytes_back (P := Tryd.prog) w 22 9 5 ⟨g, 0, none⟩ cap l Tryd.underlying22 Tryd.underlying5 Tryd.underlying9 (fun j hj => h.cells (g := g) rfl j _ (by simp [Lib.byteCells, hj]))
end Knot
end Go.Proofs.YtopncohhagebbaaDoor
