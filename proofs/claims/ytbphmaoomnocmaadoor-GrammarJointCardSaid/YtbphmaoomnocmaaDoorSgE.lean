/-
  Layer 6 (sigil): package sigil's Lex.
-/
import Derived.Test.YtbphmaoomnocmaaDoorSgInv
import Derived.Test.YtbphmaoomnocmaaDoorSgD
import Derived.Test.YtbphmaoomnocmaaDoorCnt
import Derived.Test.YtbphmaoomnocmaaDoorOrder
import Derived.Test.YtbphmaoomnocmaaDoorRows2
import Derived.RegionTactic
import Derived.BigRegion
namespace Go.Proofs.YtbphmaoomnocmaaDoor
open Go.RowKit
namespace Sg
open Gl (drop_ne width drop_next drop_end)
open Tr (IsElem own_below own_slice wp_rows)
open Knot (Turns NewRow)

set_option maxRecDepth 100000 in
theorem toks_elem : ∃ i z b, IsElem Tryd.prog 88 128 i z 4 b ∧ b ≤ 100 := by
  refine ⟨_, _, _, ⟨by kernel_rfl, rfl, rfl, by kernel_rfl, rfl, by kernel_rfl, by omega⟩, ?_⟩
  exact of_decide_eq_true (by kernel_rfl)
/-- Bytes as text. -/
def txt (l : List Nat) : ByteArray := ⟨(l.map Nat.toUInt8).toArray⟩
/-- The cells of tokens. -/
def tokC (t : Tok) : List Value := [.int .i64 t.kind, .string (txt t.text), .int .i64 (t.at'.1 : Nat), .int .i64 (t.at'.2 : Nat)]
def toksC (l : List Tok) : List Value := l.flatMap tokC
theorem toksC_snoc (l : List Tok) (t : Tok) : toksC (l ++ [t]) = toksC l ++ tokC t := by simp [toksC]
theorem toksC_len : ∀ l : List Tok, (toksC l).length = l.length * 4
  | [] => rfl
  | t :: l => by
    have := toksC_len l
    rw [toksC] at this ⊢
    rw [List.flatMap_cons, List.length_append, this, List.length_cons]
    show 4 + _ = _
    omega
theorem own_mono {w : World} {B C n c : Nat} {e : TypeId} {v : Value} {xs : List Value} (h : w.ownsRow B e c v n xs) (hC : C ≤ B) : w.ownsRow C e c v n xs := by
  refine ⟨h.1, ?_⟩
  rcases h.2 with h | ⟨g, cap, cur, hv, hb, r⟩
  · exact .inl h
  · exact .inr ⟨g, cap, cur, hv, by omega, r⟩
/-- What Lex answers. -/
def LexOut (a : Int × (Nat × Nat) × List Tok) (w : World) (e : Ending) (w' : World) : Prop :=
  ∃ v, e = .returned (.tuple #[v, plV a.2.1, .int .i64 a.1]) ∧ w'.ownsRow w.heap.size 128 4 v a.2.2.length (toksC a.2.2) ∧ Below w.heap.size w w'

/-- The list at a place: what a slice of the text holds. -/
theorem txt_take {s : ByteArray} {pos : Nat} {u : List Nat} (hu : Gly.runes (s.data.toList.drop pos) = some u) (h1 : (piece u).1 ≠ -1) :
    Gly.pre (piece u).2 (s.data.toList.drop pos) = (piece u).2 ∧ s.extract pos (pos + (piece u).2) = txt (u.take (piece u).2) := by
  obtain ⟨h, ht⟩ := low_bytes _ _ _ hu (piece_le u) (piece_low h1)
  refine ⟨h, ?_⟩
  have hx : (s.extract pos (pos + (piece u).2)).data.toList = (u.take (piece u).2).map Nat.toUInt8 := by
    rw [Lib.extract_data, ← ht]; simp
  unfold txt
  rw [← hx]
theorem pre_eq {s : ByteArray} {pos k : Nat} (hp : pos < s.size) : Gly.pre k (s.data.toList.drop pos) = 0 ↔ k = 0 := by
  cases k with
  | zero => simp [Gly.pre]
  | succ k =>
    rw [Gly.pre_step (drop_ne hp)]
    have := Gly.dec_width _ (drop_ne hp)
    omega

theorem put_zero {R : Nat} {p : Nat × Nat} {x : World} (h : PlB R p x) :
    (x.setCell ⟨R, 0, none⟩ (.int .i64 0)).cell? ⟨R, 0, none⟩ = some (.int .i64 0) ∧ ((x.setCell ⟨R, 0, none⟩ (.int .i64 0)).setCell ⟨R, 1, none⟩ (.int .i64 0)).cell? ⟨R, 1, none⟩ = some (.int .i64 0) := put_cells h 0 0

set_option maxHeartbeats 4000000 in
set_option maxRecDepth 100000 in
theorem lex_none (s : ByteArray) (w : World) (hs : s.size ≤ 4000000) (hq : Gly.runes s.data.toList = none) :
    Calls Tryd.prog 35 #[.string s] w (LexOut (ans none) w) := by
  have hcn := fun W => Gl.count_any s W hs
  have H0 := Lib.hid (And.intro (PlB.new w (0, 0)) ((Below.refl w.heap.size w).alloc (Nat.le_refl _) (.cells #[.int .i64 0, .int .i64 0] 27)))
  rw [Gly.cnt, hq] at hcn
  have HC := Lib.hid hcn
  clear hcn hq
  go_enter Tryd.func35, Tryd.ntmps35
  go_wp2_with (go_at_call 60; refine (HC.out _).mono ?_; rintro e w1 ⟨rfl, b1⟩; unfold Option.map Gl.cntV; obtain ⟨f0, f1⟩ := (H0.out.1.on b1).free; obtain ⟨d0, d1⟩ := (H0.out.1.on b1).cells)
  obtain ⟨g0, g1⟩ := put_zero (H0.out.1.on b1)
  refine bodyPost_ret (v := .tuple #[.slice none 0 0, plV (0, 0), .int .i64 4]) (by simp [results, Tryd.results35, go_sem, plV, g0, g1]) rfl ⟨.slice none 0 0, rfl, World.ownsRow_nil _ _ _ _, ?_⟩
  exact setPl_below (0, 0) (H0.out.2.trans (b1.mono (by simp))) (Nat.le_refl _)

set_option maxHeartbeats 4000000 in
set_option maxRecDepth 100000 in
theorem lex_full (s : ByteArray) (w : World) (hs : s.size ≤ 4000000) (q : List Nat) (hq : Gly.runes s.data.toList = some q) (hl : 3000 < q.length) :
    Calls Tryd.prog 35 #[.string s] w (LexOut (ans (some q)) w) := by
  have hcn := fun W => Gl.count_any s W hs
  have H0 := Lib.hid (And.intro (PlB.new w (0, 0)) ((Below.refl w.heap.size w).alloc (Nat.le_refl _) (.cells #[.int .i64 0, .int .i64 0] 27)))
  rw [Gly.cnt, hq, Option.map_some, Nat.zero_add] at hcn
  have hlt : decide (3000 < (q.length : Int)) = true := by simp; omega
  rw [ans_long hl]
  have HC := Lib.hid hcn
  clear hcn hq
  go_enter Tryd.func35, Tryd.ntmps35
  go_wp2_with (go_at_call 60; refine (HC.out _).mono ?_; rintro e w1 ⟨rfl, b1⟩; unfold Gl.cntV; obtain ⟨f0, f1⟩ := (H0.out.1.on b1).free; obtain ⟨d0, d1⟩ := (H0.out.1.on b1).cells)
  obtain ⟨g0, g1⟩ := put_zero (H0.out.1.on b1)
  refine bodyPost_ret (v := .tuple #[.slice none 0 0, plV (0, 0), .int .i64 3]) (by simp [results, Tryd.results35, go_sem, plV, g0, g1]) rfl ⟨.slice none 0 0, rfl, World.ownsRow_nil _ _ _ _, ?_⟩
  exact setPl_below (0, 0) (H0.out.2.trans (b1.mono (by simp))) (Nat.le_refl _)

/-- What Lex's loop keeps in memory. -/
structure Mem (w : World) (P : Nat) (s : ByteArray) (pos : Nat) (p : Nat × Nat) (v : Value) (acc : List Tok) (x : World) : Prop where
  it : x.heap[P + 1]? = some (.stringIter s pos)
  box : PlB P p x
  res : PlB w.heap.size (0, 0) x
  below : Below w.heap.size w x
  own : x.ownsRow (P + 2) 128 4 v acc.length (toksC acc)
section
variable {w : World} {P : Nat} {s : ByteArray} {pos : Nat} {p : Nat × Nat} {v : Value} {acc : List Tok} {x y : World}
theorem Mem.size (h : Mem w P s pos p v acc x) : P + 2 ≤ x.heap.size := by have := (Array.getElem?_eq_some_iff.1 h.it).1; omega
/-- New memory. -/
theorem Mem.on (h : Mem w P s pos p v acc x) (hb : Below x.heap.size x y) : Mem w P s pos p v acc y :=
  ⟨(hb.block (P + 1) (by have := h.size; omega)).trans h.it, h.box.on hb, h.res.on hb, h.below.trans (hb.mono h.below.size), own_below h.own hb⟩
/-- The range goes on. -/
theorem Mem.iter (h : Mem w P s pos p v acc x) (hP : w.heap.size < P) (pos' : Nat) : Mem w P s pos' p v acc (x.iterAt (P + 1) s pos') :=
  ⟨Lib.iterAt_heap x (P + 1) s pos pos' h.it, h.box.of_iter (by omega) s pos', h.res.of_iter (by omega) s pos', Lib.below_iterAt h.below (by omega) s pos',
    Tr.own_turn (F := fun k => k = P + 1) h.own ⟨rfl, rfl, rfl, by rw [Lib.iterAt_size]; exact Nat.le_refl _, fun k _ hk => Lib.iterAt_other x (P + 1) k s pos' hk⟩ fun k hk e => by have := (h.own.lt k hk).1; omega⟩
/-- Another place. -/
theorem Mem.set (h : Mem w P s pos p v acc x) (hP : w.heap.size < P) (p' : Nat × Nat) : Mem w P s pos p' v acc (setPl x P p') :=
  ⟨(setPl_other x P p' (by omega)).trans h.it, h.box.set p', (setPl_other x P p' (by omega)).trans h.res, setPl_below p' h.below (by omega),
    Tr.own_turn (F := fun k => k = P) h.own ⟨rfl, rfl, rfl, by rw [setPl_size]; exact Nat.le_refl _, fun k _ hk => setPl_other x P p' hk⟩ fun k hk e => by have := (h.own.lt k hk).1; omega⟩
/-- A token more. -/
theorem Mem.grow (h : Mem w P s pos p v acc x) (hP : w.heap.size < P) (hb : Below (P + 2) x y) {v' : Value} {t : Tok} (ho : y.ownsRow (P + 2) 128 4 v' (acc.length + 1) (toksC acc ++ tokC t)) : Mem w P s pos p v' (acc ++ [t]) y :=
  ⟨(hb.block (P + 1) (by omega)).trans h.it, (hb.block P (by omega)).trans h.box, (hb.block w.heap.size (by omega)).trans h.res, h.below.trans (hb.mono (by omega)), by rw [toksC_snoc, List.length_append]; exact ho⟩
/-- The answer's place. -/
theorem Mem.res_set (h : Mem w P s pos p v acc x) (hP : w.heap.size < P) (p' : Nat × Nat) : (setPl x w.heap.size p').drew.ownsRow (P + 2) 128 4 v acc.length (toksC acc) :=
  Tr.own_turn (x := (setPl x w.heap.size p').drew) (F := fun k => k = w.heap.size) h.own ⟨rfl, rfl, rfl, by rw [show (setPl x w.heap.size p').drew.heap = (setPl x w.heap.size p').heap from rfl, setPl_size]; exact Nat.le_refl _, fun k _ hk => setPl_other x w.heap.size p' hk⟩ fun k hk e => by have := (h.own.lt k hk).1; omega
end

set_option maxHeartbeats 8000000 in
set_option maxRecDepth 100000 in
theorem lex_some (s : ByteArray) (w : World) (hs : s.size ≤ 4000000) (q : List Nat) (hq : Gly.runes s.data.toList = some q) (hl : ¬ 3000 < q.length) :
    Calls Tryd.prog 35 #[.string s] w (LexOut (ans (some q)) w) := by
  have hcn := fun W => Gl.count_any s W hs
  have H0 := Lib.hid (And.intro (PlB.new w (0, 0)) ((Below.refl w.heap.size w).alloc (Nat.le_refl _) (.cells #[.int .i64 0, .int .i64 0] 27)))
  rw [Gly.cnt, hq, Option.map_some, Nat.zero_add] at hcn
  have hlt : decide (3000 < (q.length : Int)) = false := by simp; omega
  have HC := Lib.hid hcn
  have HQ := Lib.hid hq
  have HB := Lib.hid behind_any
  have HL := Lib.hid hl
  clear hcn hq hl
  go_enter Tryd.func35, Tryd.ntmps35
  go_wp2_with (first
    | (go_at_call 60; refine (HC.out _).mono ?_; rintro e w1 ⟨rfl, b1⟩; unfold Gl.cntV)
    | (go_at_call 61; refine (front_any _).mono ?_; rintro e w2 ⟨rfl, b2⟩; unfold plV))
  have hz1 : w.heap.size < w1.heap.size := by have := b1.size; simp at this; omega
  have hz2 : w1.heap.size ≤ w2.heap.size := b2.size
  have hM : Mem w w2.heap.size s 0 (1, 1) (.slice none 0 0) [] ((w2.alloc (Obj.cells #[.int .i64 ((1 : Nat) : Int), .int .i64 ((1 : Nat) : Int)] 27)).iter s 0) := by
    have hal : Below w2.heap.size w2 (w2.alloc (Obj.cells #[.int .i64 ((1 : Nat) : Int), .int .i64 ((1 : Nat) : Int)] 27)) := (Below.refl _ _).alloc (Nat.le_refl _) _
    have hal2 : Below (w2.heap.size + 1) (w2.alloc (Obj.cells #[.int .i64 ((1 : Nat) : Int), .int .i64 ((1 : Nat) : Int)] 27)) ((w2.alloc (Obj.cells #[.int .i64 ((1 : Nat) : Int), .int .i64 ((1 : Nat) : Int)] 27)).iter s 0) := (Below.refl _ _).alloc (by simp) _
    refine ⟨?_, (hal2.block w2.heap.size (by omega)).trans (PlB.new w2 (1, 1)), ((H0.out.1.on b1).on b2).on (hal.trans (hal2.mono (by omega))), ?_, World.ownsRow_nil _ _ _ _⟩
    · have := World.iter_heap (w2.alloc (Obj.cells #[.int .i64 ((1 : Nat) : Int), .int .i64 ((1 : Nat) : Int)] 27)) s 0
      simpa using this
    · exact ((H0.out.2.trans (b1.mono (by simp))).trans (b2.mono (by omega))).trans ((hal.trans (hal2.mono (by omega))).mono (by omega))
  have HM := Lib.hid hM
  have hPw : w.heap.size < w2.heap.size := by omega
  clear hM b1 b2 hz1 hz2 hlt H0 HC
  generalize w2.heap.size = P at *
  go_loopw [7, 9] (fun v nx wr => ∃ (pos k : Nat) (p : Nat × Nat) (u : List Nat) (acc : List Tok), nx = .int .i64 ((pos + Gly.pre k (s.data.toList.drop pos) : Nat) : Int) ∧ Hid (Mem w P s pos p v acc wr) ∧ Hid (Gly.runes (s.data.toList.drop pos) = some u ∧ Inv q u p k acc) ∧ acc.length ≤ pos ∧ p.1 ≤ pos + 1 ∧ p.2 ≤ pos + 1 ∧ pos ≤ s.size) (fun _ _ wr => s.size - wr.iterPos (P + 1))
  case atStart => exact ⟨0, 0, (1, 1), q, [], rfl, HM, Lib.hid ⟨HQ.out, inv_start q⟩, by simp, by simp, by simp, by omega⟩
  case round =>
    obtain ⟨pos, k, p, u, acc, rfl, HR, HU, hac, hp1, hp2, hps⟩ := hrel
    obtain ⟨vo, vc, rfl⟩ := own_slice HR.out.own
    have hpos0 := iterPos_of HR.out.it
    by_cases hp : pos < s.size
    · have hnx : ∀ ty, (Instr.next (.pointer (some ⟨P + 1, 0, none⟩)) true ty).run Tryd.prog wr = _ := fun ty => Lib.run_next_any_at wr (P + 1) s pos ty HR.out.it hp
      have hwd := width s pos hp
      obtain ⟨t, rfl, ht, hmx, hpre⟩ := at_rune HU.out.1 hp
      have hlt := behind_le p (Utf8.decode s pos).1
      have M1 := Lib.hid (HR.out.iter hPw (pos + (Utf8.decode s pos).2))
      have hle : ∀ k, pos + Gly.pre k (s.data.toList.drop pos) ≤ s.size := fun k => by
        have := Gly.pre_le k (s.data.toList.drop pos)
        rw [List.length_drop, ← Lib.size_eq] at this
        omega
      have hlek := hle k
      have hlem := hle (piece ((Utf8.decode s pos).1 :: t)).2
      have hz := pre_eq (s := s) (k := k) hp
      have HN := Lib.hid (show pos + Gly.pre k (s.data.toList.drop pos) = pos + Gly.pre k (s.data.toList.drop pos) from rfl)
      clear hle
      obtain ⟨W1, hW1⟩ : ∃ W1, W1 = wr.iterAt (P + 1) s (pos + (Utf8.decode s pos).2) := ⟨_, rfl⟩
      rw [← hW1] at hnx M1
      have HPR := Lib.hid hpre
      have HT := Lib.hid ht
      have HZ := Lib.hid hz
      clear hW1 HR hpre ht hz
      generalize hnn : pos + Gly.pre k (s.data.toList.drop pos) = nx at *
      have HNN := Lib.hid hnn
      clear hnn HN
      generalize hpo : pos + (Utf8.decode s pos).2 = pos' at *
      have HPO := Lib.hid hpo
      clear hpo
      generalize hrr : (Utf8.decode s pos).1 = r at *
      have HRR := Lib.hid hrr
      clear hrr
      by_cases hk : k = 0
      · subst hk
        obtain rfl : pos = nx := HNN.out
        have hex : (s.extract pos s.size).data.toList = s.data.toList.drop pos := Gl.extract_list s pos
        have hpc := fun W => piece_any (s.extract pos s.size) r t (by rw [hex]; exact HU.out.1) hmx W (by rw [Lib.size_eq, hex, List.length_drop, ← Lib.size_eq]; omega)
        rw [hex] at hpc
        have hne : r :: t ≠ [] := by simp
        have hsz := piece_size (r :: t)
        have htx := txt_take (s := s) (pos := pos) HU.out.1
        have hI := HU.out.2
        have hib := inv_bad (u := r :: t) hI hne
        have hig := inv_gap (u := r :: t) hI hne
        have hit := inv_tok (u := r :: t) hI hne
        have hsl : ∀ W, (Instr.slice 9 (.string s) (some (.int .i64 (pos : Nat))) none none).run Tryd.prog W = .ok (.string (s.extract pos s.size)) W := fun W => by
          go_simp
          try rfl
        have HPC := Lib.hid hpc
        have HSZ := Lib.hid hsz
        have HTX := Lib.hid htx
        have HIB := Lib.hid hib
        have HIG := Lib.hid hig
        have HIT := Lib.hid hit
        clear hpc hsz htx hib hig hit hI hex hne HU HM HNN HZ hlek
        generalize hx : s.extract pos s.size = xs at *
        clear hx
        generalize hkd : (piece (r :: t)).1 = kd at *
        generalize hmm : Gly.pre (piece (r :: t)).2 (s.data.toList.drop pos) = m at *
        have HKD := Lib.hid hkd
        have HMM := Lib.hid hmm
        clear hkd hmm
        by_cases h0 : kd = 0
        · subst h0
          have HA := Lib.hid (show ans (some q) = (10, p, []) from by rw [ans_bad HL.out (by rw [HIB.out rfl]), HIB.out rfl])
          have hPw2 : ¬ P = w.heap.size := by omega
          clear HTX HIT HIG HIB HSZ HKD
          go_wp2_with (go_at_call 62; refine (HPC.out _).mono ?_; rintro e w3 ⟨rfl, b3⟩; have M3 := Lib.hid (M1.out.on b3))
          obtain ⟨c0, c1⟩ := M3.out.box.cells
          obtain ⟨f0, f1⟩ := M3.out.res.free
          obtain ⟨d0, d1⟩ := M3.out.res.cells
          obtain ⟨g0, g1⟩ := put_cells M3.out.res p.1 p.2
          go_region
          go_wp2_with fail
          refine bodyPost_ret (v := .tuple #[.slice none 0 0, plV p, .int .i64 10]) (by simp [results, Tryd.results35, go_sem, plV, g0, g1]) rfl ⟨.slice none 0 0, by rw [HA.out], ?_, ?_⟩
          · rw [HA.out]
            exact World.ownsRow_nil _ _ _ _
          · exact (setPl_below p M3.out.below (Nat.le_refl _)).drew
        · by_cases h1 : kd = -1
          · subst h1
            obtain ⟨k', hk'⟩ : ∃ j, (piece (r :: t)).2 = j + 1 := ⟨(piece (r :: t)).2 - 1, by have := HSZ.out.2.1 (by omega); omega⟩
            have HI := Lib.hid (inv_next (k := k') (by rw [← hk']; exact HIG.out rfl))
            have HN2 := Lib.hid (show pos' + Gly.pre k' (s.data.toList.drop pos') = pos + m from by
              have h1 := HMM.out; have h2 := HPR.out k'; have h3 := HPO.out
              rw [hk'] at h1
              omega)
            clear hk' h0
            go_wp2_with (go_at_call 62; refine (HPC.out _).mono ?_; rintro e w3 ⟨rfl, b3⟩; have M3 := Lib.hid (M1.out.on b3); obtain ⟨c0, c1⟩ := M3.out.box.cells)
            refine (HB.out p r (by omega) (by omega) hmx _).mono ?_
            rintro e w5 ⟨rfl, b5⟩
            have M5 := M3.out.on b5
            obtain ⟨f0, f1⟩ := M5.box.free
            obtain ⟨d0, d1⟩ := M5.box.cells
            have M6 := Lib.hid (M5.set hPw (behind p r))
            clear M5 b5 c0 c1 M3
            unfold plV
            go_wp2_with fail
            go_roundw
            case rel => exact ⟨pos', k', behind p r, t, acc, by rw [HN2.out]; simp, M6, Lib.hid ⟨HT.out, HI.out⟩, by have := HPO.out; omega, by have := HPO.out; omega, by have := HPO.out; omega, by have := HPO.out; omega⟩
            case measure =>
              have h1 := iterPos_of M6.out.it
              unfold setPl at h1
              have := HPO.out
              rw [h1, hpos0]; omega
          · obtain ⟨k', hk'⟩ : ∃ j, (piece (r :: t)).2 = j + 1 := ⟨(piece (r :: t)).2 - 1, by have := HSZ.out.2.1 h0; omega⟩
            obtain ⟨hm, hxt⟩ := HTX.out h1
            have HI := Lib.hid (inv_next (k := k') (by rw [← hk']; exact HIT.out h0 h1))
            have HN2 := Lib.hid (show pos' + Gly.pre k' (s.data.toList.drop pos') = pos + m from by
              have h1 := HMM.out; have h2 := HPR.out k'; have h3 := HPO.out
              rw [hk'] at h1
              omega)
            have b1 : (kd == 0) = false := by simpa using h0
            have b2 : (kd != -1) = true := by simpa using h1
            have hsl2 : ∀ W, (Instr.slice 9 (.string s) (some (.int .i64 (pos : Nat))) (some (.int .i64 ((pos : Int) + (m : Int)))) none).run Tryd.prog W = .ok (.string (txt ((r :: t).take (piece (r :: t)).2))) W := fun W => by
              rw [← hxt, ← hm, ← Int.natCast_add, run_slice_string W 9 s .i64 .i64 (pos : Int) ((pos + m : Nat) : Int) Tryd.underlying9 (by omega) (by omega) (by omega), Int.toNat_natCast, Int.toNat_natCast]
            have hwr : IntKind.i64.wrap ((pos : Int) + (m : Int)) = (pos : Int) + (m : Int) := by rw [IntKind.wrap_i64]; omega
            generalize htt : txt ((r :: t).take (piece (r :: t)).2) = tx at *
            have htxs : tx.size ≤ 4000000 := by
              have h2 := HSZ.out.1
              have h3 : tx.size = ((r :: t).take (piece (r :: t)).2).length := by rw [← htt]; simp [txt, ByteArray.size]
              rw [List.length_take] at h3
              omega
            have hbs : ∀ W, (Instr.buildSlice 88 1 #[(0, .agg #[.int .i64 kd, .string tx, .int .i64 (p.1 : Nat), .int .i64 (p.2 : Nat)])]).run Tryd.prog W = .ok (.slice (some ⟨W.heap.size, 0, none⟩) 1 1) (W.alloc (.cells #[.int .i64 kd, .string tx, .int .i64 (p.1 : Nat), .int .i64 (p.2 : Nat)] 128)) := fun W => by kernel_rfl
            have HTT := Lib.hid htt
            have HHM := Lib.hid hm
            clear hk' h0 h1 hm hxt htt HIG HIB HTX
            go_wp2_with (go_at_call 62; refine (HPC.out _).mono ?_; rintro e w3 ⟨rfl, b3⟩; have M3 := Lib.hid (M1.out.on b3))
            refine Order.region_begin (S := Below (P + 2) w3.drew) (by kernel_rfl) ?_
            have HX := Lib.hid (show ∀ x, Below (P + 2) w3.drew x → x.cell? ⟨P, 0, none⟩ = some (.int .i64 (p.1 : Nat)) ∧ x.cell? ⟨P, 1, none⟩ = some (.int .i64 (p.2 : Nat)) from fun x hx => (show PlB P p x from (hx.block P (by omega)).trans M3.out.box).cells)
            refine Order.reads_any (idx := [0, 1, 2, 3, 4, 5, 6, 7, 9]) (by kernel_rfl) (Below.refl _ _) (fun _ _ _ _ _ h => Order.noPanic_put h) 5 _ _ (by decide +kernel) ?_
            simp only [Order.pick, List.getElem?_toArray, List.getElem?_cons_zero, List.getElem?_cons_succ]
            repeat (first
              | (refine Order.reads_off (by rfl) ?_
                 simp only [Act.put, List.setIfInBounds_toArray, List.set_cons_zero, List.set_cons_succ])
              | (apply Order.reads_on
                 · rfl
                 · intro x hx
                   first
                     | (go_simp; rfl)
                     | (obtain ⟨c0, c1⟩ := HX.out x hx
                        go_simp; rfl)
                 simp only [Act.put, List.setIfInBounds_toArray, List.set_cons_zero, List.set_cons_succ]))
            refine Order.reads_end ?_
            apply Order.acts_any (R := Below (P + 2)) (fun h k => h.trans k) (i := 8)
            · rfl
            · decide +kernel
            · rfl
            unfold Oper.wp
            go_simp
            refine Calls.mono (Who.clone_any tx _ htxs) ?_
            rintro e w4 ⟨rfl, b4⟩
            have b4' : Below w3.heap.size w3 w4 := (Below.refl _ _).drew.trans b4
            have M4 := Lib.hid (M3.out.on b4')
            have hP4 : P + 2 ≤ w4.heap.size := M4.out.size
            refine ⟨b4.mono (by show P + 2 ≤ w3.heap.size; exact M3.out.size), ?_⟩
            clear b4 b4' M3 HX b3 M1
            refine Order.reads_any (idx := [10]) (by kernel_rfl) (Below.refl _ _) (fun _ _ _ _ _ h => Order.noPanic_put h) 3 _ _ (by decide +kernel) ?_
            simp only [Order.pick, List.getElem?_toArray, List.getElem?_cons_zero, List.getElem?_cons_succ]
            repeat (first
              | (refine Order.reads_off (by rfl) ?_
                 simp only [Act.put, List.setIfInBounds_toArray, List.set_cons_zero, List.set_cons_succ])
              | (apply Order.reads_on
                 · rfl
                 · intro x hx
                   first
                     | (go_simp; rfl)
                     | (fail
                        go_simp; rfl)
                 simp only [Act.put, List.setIfInBounds_toArray, List.set_cons_zero, List.set_cons_succ]))
            refine Order.reads_end ?_
            apply Order.acts_any (R := Below (P + 2)) (fun h k => h.trans k) (i := 11)
            · rfl
            · decide +kernel
            · rfl
            unfold Oper.wp
            go_simp
            have hal := (Below.refl w4.heap.size w4).alloc (Nat.le_refl _) (Obj.cells #[.int .i64 kd, .string tx, .int .i64 (p.1 : Nat), .int .i64 (p.2 : Nat)] 128)
            refine ⟨hal.mono hP4, ?_⟩
            have hnew := heap_alloc_new w4 (Obj.cells #[.int .i64 kd, .string tx, .int .i64 (p.1 : Nat), .int .i64 (p.2 : Nat)] 128)
            have M8 := Lib.hid (M4.out.on hal)
            obtain ⟨ti, tz, tb, T, hT⟩ := toks_elem
            have hcl : ∀ j u, (tokC ⟨kd, (r :: t).take (piece (r :: t)).2, p⟩)[j]? = some u → (w4.alloc (Obj.cells #[.int .i64 kd, .string tx, .int .i64 (p.1 : Nat), .int .i64 (p.2 : Nat)] 128)).cell? ((⟨w4.heap.size, 0, none⟩ : Addr).add j) = some u := by
              intro j u hj
              rw [Tr.addp, Nat.zero_add, Lib.cell_of_heap hnew]
              rw [tokC, HTT.out] at hj
              simpa using hj
            have hz8 : P + 2 ≤ (w4.alloc (Obj.cells #[.int .i64 kd, .string tx, .int .i64 (p.1 : Nat), .int .i64 (p.2 : Nat)] 128)).heap.size := M8.out.size
            clear hnew hal M4 hP4 hsl hsl2 hbs
            generalize hy : w4.alloc (Obj.cells #[.int .i64 kd, .string tx, .int .i64 (p.1 : Nat), .int .i64 (p.2 : Nat)] 128) = y at *
            clear hy
            apply Order.acts_any (R := Below (P + 2)) (fun h k => h.trans k) (i := 12)
            · rfl
            · decide +kernel
            · rfl
            refine wp_rows T _ _ rfl rfl rfl M8.out.own hz8 (m := 1) (news := tokC ⟨kd, (r :: t).take (piece (r :: t)).2, p⟩) rfl hcl (by intro u hu; simp [tokC] at hu; rcases hu with rfl | rfl | rfl | rfl <;> rfl) (by omega) (Nat.le_trans (Nat.mul_le_mul_left _ hT) (by omega)) ?_
            intro v2 z o2 g2 n2
            have hbz : Below (P + 2) y z := (Below.refl _ _).grown g2 hz8 fun k hk => (M8.out.own.lt k hk).1
            refine ⟨hbz, ?_⟩
            have M7 := Lib.hid (M8.out.grow hPw hbz o2)
            obtain ⟨vo2, vc2, rfl⟩ := own_slice o2
            clear o2 g2 n2 hbz M8 hcl hz8 T hT
            simp only [Act.put, List.setIfInBounds_toArray]
            refine Order.reads_any (idx := [13]) (by kernel_rfl) (Below.refl _ _) (fun _ _ _ _ _ h => Order.noPanic_put h) 0 _ _ (by decide +kernel) ?_
            simp only [Order.pick, List.getElem?_toArray, List.getElem?_cons_zero, List.getElem?_cons_succ]
            repeat (first
              | (refine Order.reads_off (by rfl) ?_
                 simp only [Act.put, List.setIfInBounds_toArray, List.set_cons_zero, List.set_cons_succ])
              | (apply Order.reads_on
                 · rfl
                 · intro x hx
                   first
                     | (go_simp; rfl)
                     | (fail
                        go_simp; rfl)
                 simp only [Act.put]))
            refine Order.reads_end ?_
            refine wpAnyH_done (by decide +kernel) ?_ _
            refine NoPanic.normal ?_
            obtain ⟨c0, c1⟩ := M7.out.box.cells
            go_wp2_with fail
            refine (HB.out p r (by omega) (by omega) hmx _).mono ?_
            rintro e w5 ⟨rfl, b5⟩
            have M5 := M7.out.on b5
            obtain ⟨f0, f1⟩ := M5.box.free
            obtain ⟨d0, d1⟩ := M5.box.cells
            have M6 := Lib.hid (M5.set hPw (behind p r))
            clear M5 b5 c0 c1 M7
            unfold plV
            go_wp2_with fail
            go_roundw
            case rel => exact ⟨pos', k', behind p r, t, _, by rw [HN2.out]; simp, M6, Lib.hid ⟨HT.out, HI.out⟩, by have := HPO.out; rw [List.length_append]; simp; omega, by have := HPO.out; omega, by have := HPO.out; omega, by have := HPO.out; omega⟩
            case measure =>
              have h1 := iterPos_of M6.out.it
              unfold setPl at h1
              have := HPO.out
              rw [h1, hpos0]; omega
      · obtain ⟨k', rfl⟩ : ∃ j, k = j + 1 := ⟨k - 1, by omega⟩
        have e1 : ((pos : Int) == (nx : Int)) = false := by
          have := HNN.out; have := HZ.out
          simp; omega
        obtain ⟨c0, c1⟩ := M1.out.box.cells
        have HI := Lib.hid (inv_next HU.out.2)
        have hn2 : pos' + Gly.pre k' (s.data.toList.drop pos') = nx := by
          have h1 := HNN.out; have h2 := HPR.out k'; have h3 := HPO.out
          omega
        have HN2 := Lib.hid hn2
        clear hn2 hk HU HM hlem
        go_wp2_with fail
        refine (HB.out p r (by omega) (by omega) hmx _).mono ?_
        rintro e w5 ⟨rfl, b5⟩
        have M5 := M1.out.on b5
        obtain ⟨f0, f1⟩ := M5.box.free
        obtain ⟨d0, d1⟩ := M5.box.cells
        have M6 := Lib.hid (M5.set hPw (behind p r))
        clear M5 b5 c0 c1 M1
        unfold plV
        go_wp2_with fail
        go_roundw
        case rel => exact ⟨pos', k', behind p r, t, acc, by rw [HN2.out], M6, Lib.hid ⟨HT.out, HI.out⟩, by have := HPO.out; omega, by have := HPO.out; omega, by have := HPO.out; omega, by have := HPO.out; omega⟩
        case measure =>
          have h1 := iterPos_of M6.out.it
          unfold setPl at h1
          have := HPO.out
          rw [h1, hpos0]; omega
    · have hnx : ∀ ty, (Instr.next (.pointer (some ⟨P + 1, 0, none⟩)) true ty).run Tryd.prog wr = _ := fun ty => Lib.run_next_end_at wr (P + 1) s pos ty HR.out.it hp
      obtain rfl := at_end HU.out.1 hp
      have he := inv_end HU.out.2
      have HA := Lib.hid (show ans (some q) = (0, p, acc) from by rw [ans_ok HL.out (by rw [he]), he])
      obtain ⟨c0, c1⟩ := HR.out.box.cells
      obtain ⟨f0, f1⟩ := HR.out.res.free
      obtain ⟨d0, d1⟩ := HR.out.res.cells
      obtain ⟨g0, g1⟩ := put_cells HR.out.res p.1 p.2
      have hPw2 : ¬ P = w.heap.size := by omega
      have HY := Lib.hid HR.out
      clear he HU HM HB HQ HR
      go_wp2_with fail
      go_region
      go_wp2_with fail
      refine bodyPost_ret (v := .tuple #[.slice vo acc.length vc, plV p, .int .i64 0]) (by simp [results, Tryd.results35, go_sem, plV, g0, g1]) rfl ⟨.slice vo acc.length vc, by rw [HA.out], ?_, ?_⟩
      · rw [HA.out]
        exact own_mono (Mem.res_set HY.out hPw p) (by omega)
      · exact (setPl_below p HY.out.below (Nat.le_refl _)).drew

theorem lex_any (s : ByteArray) (w : World) (hs : s.size ≤ 4000000) :
    Calls Tryd.prog 35 #[.string s] w (LexOut (ans (Gly.runes s.data.toList)) w) := by
  cases hq : Gly.runes s.data.toList with
  | none => exact lex_none s w hs hq
  | some q =>
    by_cases hl : 3000 < q.length
    · exact lex_full s w hs q hq hl
    · exact lex_some s w hs q hq hl
end Sg
end Go.Proofs.YtbphmaoomnocmaaDoor
