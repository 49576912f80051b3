/-
  Layer 10 (cask): the document's takeRel.
-/
import Derived.Test.YtopncohhagebbaaDoorCkDd
import Derived.Test.YtopncohhagebbaaDoorCnDef
namespace Go.Proofs.YtopncohhagebbaaDoor
open Go.RowKit
namespace Ck
open Knot (takeN takeT takeM value Turns)
open Tr (Nd none0 node4)
open Who (bs bs_list bs_size bs_self eq_of_list)
open Gr (Al Rl NodeS nodeE allowE relE alV relV RelS tAl tRl elA)

def zR : Rl := ⟨none0, [], .mk 0 none0 none0 []⟩
def markS (l : List UInt8) : Bool × Nat := match takeM l with
  | some (m, _) => (m, 1)
  | none => (false, 0)
theorem dmarks_any (s : ByteArray) (w : World) (hz : s.size ≤ 1000000000000) :
    Calls Tryd.prog 29 #[.string s] w fun e x => e = .returned (.tuple #[.bool (markS s.data.toList).1, .int .i64 (markS s.data.toList).2]) ∧ w = x := by
  refine (dmark_any s w hz).mono ?_
  rintro e x ⟨hw, ⟨ht, rfl⟩ | ⟨m, r, ht, -, rfl⟩⟩
  · exact ⟨by rw [markS, ht]; rfl, hw⟩
  · exact ⟨by rw [markS, ht]; rfl, hw⟩
theorem markS_le (l : List UInt8) : (markS l).2 ≤ l.length ∧ (markS l).2 ≤ 1 := by
  cases l with
  | nil => exact ⟨Nat.zero_le _, Nat.zero_le _⟩
  | cons a m =>
    rw [markS]
    cases takeM (a :: m) with
    | none => simp
    | some p => simp
theorem takeM_drop {l r : List UInt8} {m : Bool} (h : takeM l = some (m, r)) : r = l.drop 1 := by
  have := takeM_of h
  rw [this]
  cases m <;> rfl
/-- What is allowed, by its parts. -/
theorem allow_head (l : List UInt8) {a b c : Nat} (ha : a = (textS l 16).2) (hb : b = (textS (l.drop a) 16).2) (hc : c = (markS (l.drop (a + b))).2) :
    allowT l = if a = 0 ∨ b = 0 ∨ c = 0 then none else some (⟨(textS l 16).1, (textS (l.drop a) 16).1, (markS (l.drop (a + b))).1⟩, l.drop (a + b + c)) := by
  by_cases h1 : a = 0
  · rw [if_pos (.inl h1), allowT, textS_none (by omega)]
  obtain ⟨t, e1, e1', -⟩ := textS_some (l := l) (most := 16) (by omega)
  rw [← ha] at e1
  by_cases h2 : b = 0
  · rw [if_pos (.inr (.inl h2)), allowT, e1]
    simp only
    rw [textS_none (by omega)]
  obtain ⟨u, e2, e2', -⟩ := textS_some (l := l.drop a) (most := 16) (by omega)
  rw [← hb, List.drop_drop] at e2
  by_cases h3 : c = 0
  · rw [if_pos (.inr (.inr h3)), allowT, e1]
    simp only
    rw [e2]
    simp only
    cases hm : takeM (l.drop (a + b)) with
    | none => rfl
    | some p => rw [markS, hm] at hc; simp only at hc; omega
  rw [if_neg (by omega), allowT, e1]
  simp only
  rw [e2]
  simp only
  cases hm : takeM (l.drop (a + b)) with
  | none => rw [markS, hm] at hc; simp only at hc; omega
  | some p =>
    obtain ⟨m, r⟩ := p
    have e3 := takeM_drop hm
    have e4 : c = 1 := by rw [hc, markS, hm]
    rw [List.drop_drop] at e3
    rw [e1', e2', e3, e4, markS, hm]
/-- A relation, by its head. -/
theorem rel_head (lim : Nat → Int) (l : List UInt8) {a q : Nat} (ha : a = (textS l 16).2) (hq : q = (numS (l.drop a) 1048576).2) :
    relT 1048576 lim l = if a = 0 ∨ q = 0 then none else
      match repsT allowT (numS (l.drop a) 1048576).1 (l.drop (a + q)) with
      | none => none
      | some (xs, r) => match nodeT lim 8 r with
        | none => none
        | some (n, z) => some (⟨(textS l 16).1, xs, n⟩, z) := by
  by_cases h1 : a = 0
  · rw [if_pos (.inl h1), relT, textS_none (by omega)]
  obtain ⟨t, e1, e1', -⟩ := textS_some (l := l) (most := 16) (by omega)
  rw [← ha] at e1
  by_cases h2 : q = 0
  · rw [if_pos (.inr h2), relT, e1]
    simp only [listT]
    rw [numS_no (by omega)]
  have e2 := (numS_yes (l := l.drop a) (most := 1048576) (by omega)).1
  rw [← hq, List.drop_drop] at e2
  rw [if_neg (by omega), relT, e1]
  simp only [listT]
  rw [e2, e1']
  simp only
  cases repsT allowT (numS (l.drop a) 1048576).1 (l.drop (a + q)) with
  | none => rfl
  | some p =>
    obtain ⟨xs, r⟩ := p
    simp only
    cases nodeT lim 8 r with
    | none => rfl
    | some p => rfl

set_option maxHeartbeats 16000000 in
set_option maxRecDepth 100000 in
theorem drel_any (s : ByteArray) (w : World) (hs : s.size ≤ 4000) :
    Calls Tryd.prog 16 #[.string s] w fun e x => Below w.heap.size w x ∧
      ((relT 1048576 lim1 s.data.toList = none ∧ e = .returned (.tuple #[relV zR (.slice none 0 0) (.slice none 0 0), .int .i64 0])) ∨
        ∃ r z k v, relT 1048576 lim1 s.data.toList = some (r, z) ∧ Cutd s.data.toList z k ∧ e = .returned (.tuple #[v, .int .i64 (k : Int)]) ∧ RelS (fun g => w.heap.size ≤ g) x r v) := by
  obtain ⟨l, hl⟩ : ∃ l, l = s.data.toList := ⟨_, rfl⟩
  have hsz : l.length = s.size := by rw [hl, Lib.size_eq]
  obtain ⟨a, ha⟩ : ∃ a, a = (textS l 16).2 := ⟨_, rfl⟩
  obtain ⟨q, hq⟩ : ∃ q, q = (numS (l.drop a) 1048576).2 := ⟨_, rfl⟩
  have ga : a ≤ l.length := by rw [ha]; exact textS_le _ _
  have gq : a + q ≤ l.length := by have := numS_le (l.drop a) 1048576; rw [← hq, List.length_drop] at this; omega
  have hm17 := numS_lt (l.drop a) 1048576
  have HH := Lib.hid (rel_head lim1 l ha hq)
  have HN1 := Lib.hid (fun W => dtexts_any s 16 W (by omega))
  have hs1 := slice_from s (a : Int) a rfl (by omega)
  have HN2 := Lib.hid (fun W => dnums_any (bs (l.drop a)) 1048576 W (by rw [bs_size, List.length_drop]; omega))
  rw [← hl] at hs1 HN1 ⊢
  rw [bs_list] at HN2
  rw [← ha] at HN1
  rw [← hq] at HN2
  have HShort := Lib.hid (textS_short l)
  generalize (textS l 16).1 = name at *
  generalize (numS (l.drop a) 1048576).1 = count at *
  generalize bs (l.drop a) = t1 at *
  have HLn := Lib.hid (And.intro hl hsz)
  clear hl ha hq
  have B0 := Lib.hid (C6.new w tRl (.string ⟨#[]⟩) (.slice none 0 0) (.int .i64 0) (.string ⟨#[]⟩) (.string ⟨#[]⟩) (.slice none 0 0))
  have BL := Lib.hid (new1 w (.cells #[.string ⟨#[]⟩, .slice none 0 0, .int .i64 0, .string ⟨#[]⟩, .string ⟨#[]⟩, .slice none 0 0] tRl))
  have z1 : (w.alloc (.cells #[.string ⟨#[]⟩, .slice none 0 0, .int .i64 0, .string ⟨#[]⟩, .string ⟨#[]⟩, .slice none 0 0] tRl)).heap.size = w.heap.size + 1 := by simp
  have HZ1 := Lib.hid z1
  go_enter Tryd.func16, Tryd.ntmps16
  go_upto_region 1 with fail
  generalize w.alloc (.cells #[.string ⟨#[]⟩, .slice none 0 0, .int .i64 0, .string ⟨#[]⟩, .string ⟨#[]⟩, .slice none 0 0] tRl) = w1 at *
  clear z1
  go_wp2_with fail
  refine (HN1.out _).mono ?_
  rintro e x ⟨rfl, rfl⟩
  go_wp2_with fail
  refine (HN2.out _).mono ?_
  rintro e x ⟨rfl, rfl⟩
  clear HN1 HN2 hs1
  by_cases h0 : a = 0 ∨ q = 0
  · have HNo := Lib.hid (HH.out.trans (if_pos h0))
    rcases (show a = 0 ∨ (a ≠ 0 ∧ q = 0) by omega) with h1 | ⟨h1, h2⟩
    · have e1 : ((a : Int) == 0) = true := by simp; omega
      clear h0 h1
      obtain ⟨f0, f1, f2, f3, f4, f5⟩ := B0.out.free
      have t1 : Turns (fun g => g = w.heap.size) w1 ((((((w1.setCell ⟨w.heap.size, 0, none⟩ (.string ⟨#[]⟩)).setCell ⟨w.heap.size, 1, none⟩ (.slice none 0 0)).setCell ⟨w.heap.size, 2, none⟩ (.int .i64 0)).setCell ⟨w.heap.size, 3, none⟩ (.string ⟨#[]⟩)).setCell ⟨w.heap.size, 4, none⟩ (.string ⟨#[]⟩)).setCell ⟨w.heap.size, 5, none⟩ (.slice none 0 0)) := (((((((Turns.refl (fun g => g = w.heap.size) w1).setCell (p := ⟨w.heap.size, 0, none⟩) rfl (.string ⟨#[]⟩)).setCell (p := ⟨w.heap.size, 1, none⟩) rfl (.slice none 0 0)).setCell (p := ⟨w.heap.size, 2, none⟩) rfl (.int .i64 0)).setCell (p := ⟨w.heap.size, 3, none⟩) rfl (.string ⟨#[]⟩)).setCell (p := ⟨w.heap.size, 4, none⟩) rfl (.string ⟨#[]⟩)).setCell (p := ⟨w.heap.size, 5, none⟩) rfl (.slice none 0 0))
      have HF := Lib.hid (And.intro (show C6 (w.heap.size) tRl (.string ⟨#[]⟩) (.slice none 0 0) (.int .i64 0) (.string ⟨#[]⟩) (.string ⟨#[]⟩) (.slice none 0 0) ((((((w1.setCell ⟨w.heap.size, 0, none⟩ (.string ⟨#[]⟩)).setCell ⟨w.heap.size, 1, none⟩ (.slice none 0 0)).setCell ⟨w.heap.size, 2, none⟩ (.int .i64 0)).setCell ⟨w.heap.size, 3, none⟩ (.string ⟨#[]⟩)).setCell ⟨w.heap.size, 4, none⟩ (.string ⟨#[]⟩)).setCell ⟨w.heap.size, 5, none⟩ (.slice none 0 0)) from (Lib.heap_setCell_same (i := 5) (Lib.heap_setCell_same (i := 4) (Lib.heap_setCell_same (i := 3) (Lib.heap_setCell_same (i := 2) (Lib.heap_setCell_same (i := 1) (Lib.heap_setCell_same (i := 0) B0.out (.string ⟨#[]⟩)) (.slice none 0 0)) (.int .i64 0)) (.string ⟨#[]⟩)) (.string ⟨#[]⟩)) (.slice none 0 0))) (BL.out.trans (t1.below BL.out.size fun k hk => by omega)))
      obtain ⟨c0, c1, c2, c3, c4, c5⟩ := B0.out.cells
      clear t1
      go_wp2_with fail
      generalize ((((((w1.setCell ⟨w.heap.size, 0, none⟩ (.string ⟨#[]⟩)).setCell ⟨w.heap.size, 1, none⟩ (.slice none 0 0)).setCell ⟨w.heap.size, 2, none⟩ (.int .i64 0)).setCell ⟨w.heap.size, 3, none⟩ (.string ⟨#[]⟩)).setCell ⟨w.heap.size, 4, none⟩ (.string ⟨#[]⟩)).setCell ⟨w.heap.size, 5, none⟩ (.slice none 0 0)) = F at *
      obtain ⟨g0, g1, g2, g3, g4, g5⟩ := HF.out.1.cells
      exact bodyPost_ret (v := .tuple #[relV zR (.slice none 0 0) (.slice none 0 0), .int .i64 0]) (by simp [results, Tryd.results16, go_sem, g0, g1, g2, g3, g4, g5, relV, zR, Nd.kind, Nd.ta, Nd.tb, none0]) rfl ⟨HF.out.2, .inl ⟨HNo.out, rfl⟩⟩
    · have e1 : ((a : Int) == 0) = false := by simp; omega
      have e2 : ((q : Int) == 0) = true := by simp; omega
      clear h0 h1 h2
      obtain ⟨f0, f1, f2, f3, f4, f5⟩ := B0.out.free
      have t1 : Turns (fun g => g = w.heap.size) w1 ((((((w1.setCell ⟨w.heap.size, 0, none⟩ (.string ⟨#[]⟩)).setCell ⟨w.heap.size, 1, none⟩ (.slice none 0 0)).setCell ⟨w.heap.size, 2, none⟩ (.int .i64 0)).setCell ⟨w.heap.size, 3, none⟩ (.string ⟨#[]⟩)).setCell ⟨w.heap.size, 4, none⟩ (.string ⟨#[]⟩)).setCell ⟨w.heap.size, 5, none⟩ (.slice none 0 0)) := (((((((Turns.refl (fun g => g = w.heap.size) w1).setCell (p := ⟨w.heap.size, 0, none⟩) rfl (.string ⟨#[]⟩)).setCell (p := ⟨w.heap.size, 1, none⟩) rfl (.slice none 0 0)).setCell (p := ⟨w.heap.size, 2, none⟩) rfl (.int .i64 0)).setCell (p := ⟨w.heap.size, 3, none⟩) rfl (.string ⟨#[]⟩)).setCell (p := ⟨w.heap.size, 4, none⟩) rfl (.string ⟨#[]⟩)).setCell (p := ⟨w.heap.size, 5, none⟩) rfl (.slice none 0 0))
      have HF := Lib.hid (And.intro (show C6 (w.heap.size) tRl (.string ⟨#[]⟩) (.slice none 0 0) (.int .i64 0) (.string ⟨#[]⟩) (.string ⟨#[]⟩) (.slice none 0 0) ((((((w1.setCell ⟨w.heap.size, 0, none⟩ (.string ⟨#[]⟩)).setCell ⟨w.heap.size, 1, none⟩ (.slice none 0 0)).setCell ⟨w.heap.size, 2, none⟩ (.int .i64 0)).setCell ⟨w.heap.size, 3, none⟩ (.string ⟨#[]⟩)).setCell ⟨w.heap.size, 4, none⟩ (.string ⟨#[]⟩)).setCell ⟨w.heap.size, 5, none⟩ (.slice none 0 0)) from (Lib.heap_setCell_same (i := 5) (Lib.heap_setCell_same (i := 4) (Lib.heap_setCell_same (i := 3) (Lib.heap_setCell_same (i := 2) (Lib.heap_setCell_same (i := 1) (Lib.heap_setCell_same (i := 0) B0.out (.string ⟨#[]⟩)) (.slice none 0 0)) (.int .i64 0)) (.string ⟨#[]⟩)) (.string ⟨#[]⟩)) (.slice none 0 0))) (BL.out.trans (t1.below BL.out.size fun k hk => by omega)))
      obtain ⟨c0, c1, c2, c3, c4, c5⟩ := B0.out.cells
      clear t1
      go_wp2_with fail
      generalize ((((((w1.setCell ⟨w.heap.size, 0, none⟩ (.string ⟨#[]⟩)).setCell ⟨w.heap.size, 1, none⟩ (.slice none 0 0)).setCell ⟨w.heap.size, 2, none⟩ (.int .i64 0)).setCell ⟨w.heap.size, 3, none⟩ (.string ⟨#[]⟩)).setCell ⟨w.heap.size, 4, none⟩ (.string ⟨#[]⟩)).setCell ⟨w.heap.size, 5, none⟩ (.slice none 0 0)) = F at *
      obtain ⟨g0, g1, g2, g3, g4, g5⟩ := HF.out.1.cells
      exact bodyPost_ret (v := .tuple #[relV zR (.slice none 0 0) (.slice none 0 0), .int .i64 0]) (by simp [results, Tryd.results16, go_sem, g0, g1, g2, g3, g4, g5, relV, zR, Nd.kind, Nd.ta, Nd.tb, none0]) rfl ⟨HF.out.2, .inl ⟨HNo.out, rfl⟩⟩
  · have HQ := Lib.hid (HH.out.trans (if_neg h0))
    have e1 : ((a : Int) == 0) = false := by simp; omega
    have e2 : ((q : Int) == 0) = false := by simp; omega
    have hn1 := C6.new w1 tRl (.string name) (.slice none 0 0) (.int .i64 0) (.string ⟨#[]⟩) (.string ⟨#[]⟩) (.slice none 0 0)
    have hnb := new1 w1 (.cells #[.string name, .slice none 0 0, .int .i64 0, .string ⟨#[]⟩, .string ⟨#[]⟩, .slice none 0 0] tRl)
    rw [HZ1.out] at hn1
    have HB := Lib.hid hn1
    have HZ := Lib.hid (And.intro (B0.out.on hnb) (BL.out.trans (hnb.mono BL.out.size)))
    have hb1 : 1 ≤ a + q := by omega
    have hsz1 := HZ1.out
    clear hn1 hnb h0 HH
    go_upto_region 8 with fail
    generalize w1.alloc (.cells #[.string name, .slice none 0 0, .int .i64 0, .string ⟨#[]⟩, .string ⟨#[]⟩, .slice none 0 0] tRl) = w2 at *
    clear e1 e2 B0 BL hsz1
    have HRow0 := Lib.hid (RowX.nil allowE (fun _ => False) w2 (w.heap.size + 2) tAl)
    go_loopw [9, 5] (fun i p wr => ∃ (j pos : Nat) (xs : List Al) (rv : Value), i = .int .i64 j ∧ p = .int .i64 pos ∧ j ≤ count ∧ pos ≤ l.length ∧ j + 1 ≤ pos ∧ Hid (repsT allowT j (l.drop (a + q)) = some (xs, l.drop pos) ∧ xs.length = j ∧ Below w.heap.size w wr ∧ C6 (w.heap.size) tRl (.string ⟨#[]⟩) (.slice none 0 0) (.int .i64 0) (.string ⟨#[]⟩) (.string ⟨#[]⟩) (.slice none 0 0) wr ∧ C6 (w.heap.size + 1) tRl (.string name) rv (.int .i64 0) (.string ⟨#[]⟩) (.string ⟨#[]⟩) (.slice none 0 0) wr ∧ RowX allowE (fun _ => False) wr (w.heap.size + 2) tAl rv xs)) (fun i _ _ => count - (intOf i).toNat)
    case atStart => exact ⟨0, a + q, [], _, rfl, by go_num, by omega, by omega, by omega, Lib.hid ⟨rfl, rfl, HZ.out.2, HZ.out.1, HB.out, HRow0.out⟩⟩
    case round =>
      obtain ⟨j, pos, xs, rv, rfl, rfl, hj, hp, hjp, HJ⟩ := hrel
      by_cases hlt : j < count
      · obtain ⟨b, hb⟩ : ∃ b, b = (textS (l.drop pos) 16).2 := ⟨_, rfl⟩
        obtain ⟨c, hc⟩ : ∃ c, c = (textS (l.drop (pos + b)) 16).2 := ⟨_, rfl⟩
        obtain ⟨d, hd⟩ : ∃ d, d = (markS (l.drop (pos + b + c))).2 := ⟨_, rfl⟩
        have gb : pos + b ≤ l.length := by have := textS_le (l.drop pos) 16; rw [← hb, List.length_drop] at this; omega
        have gc : pos + b + c ≤ l.length := by have := textS_le (l.drop (pos + b)) 16; rw [← hc, List.length_drop] at this; omega
        have gd : pos + b + c + d ≤ l.length := by have := (markS_le (l.drop (pos + b + c))).1; rw [← hd, List.length_drop] at this; omega
        have hah : allowT (l.drop pos) = if b = 0 ∨ c = 0 ∨ d = 0 then none else some (⟨(textS (l.drop pos) 16).1, (textS (l.drop (pos + b)) 16).1, (markS (l.drop (pos + b + c))).1⟩, l.drop (pos + b + c + d)) := by
          have h := allow_head (l.drop pos) (a := b) (b := c) (c := d) hb (by rw [List.drop_drop]; exact hc) (by rw [List.drop_drop, ← Nat.add_assoc]; exact hd)
          simp only [List.drop_drop, ← Nat.add_assoc] at h
          exact h
        have HAH := Lib.hid hah
        have hs1 := slice_from s (pos : Int) pos rfl (by omega)
        have hs2 := slice_from s ((pos : Int) + (b : Int)) (pos + b) (by omega) (by omega)
        have hs3 := slice_from s ((pos : Int) + (b : Int) + (c : Int)) (pos + b + c) (by omega) (by omega)
        have HN1 := Lib.hid (fun W => dtexts_any (bs (l.drop pos)) 16 W (by rw [bs_size, List.length_drop]; omega))
        have HN2 := Lib.hid (fun W => dtexts_any (bs (l.drop (pos + b))) 16 W (by rw [bs_size, List.length_drop]; omega))
        have HN3 := Lib.hid (fun W => dmarks_any (bs (l.drop (pos + b + c))) W (by rw [bs_size, List.length_drop]; omega))
        rw [← HLn.out.1] at hs1 hs2 hs3
        rw [bs_list] at HN1 HN2 HN3
        rw [← hb] at HN1
        rw [← hc] at HN2
        rw [← hd] at HN3
        generalize (textS (l.drop pos) 16).1 = ty at *
        generalize (textS (l.drop (pos + b)) 16).1 = rl at *
        generalize (markS (l.drop (pos + b + c))).1 = wd at *
        generalize bs (l.drop pos) = u1 at *
        generalize bs (l.drop (pos + b)) = u2 at *
        generalize bs (l.drop (pos + b + c)) = u3 at *
        clear hb hc hd hah
        go_wp2_with fail
        refine (HN1.out _).mono ?_
        rintro e x ⟨rfl, rfl⟩
        go_wp2_with fail
        refine (HN2.out _).mono ?_
        rintro e x ⟨rfl, rfl⟩
        go_wp2_with fail
        refine (HN3.out _).mono ?_
        rintro e x ⟨rfl, rfl⟩
        clear HN1 HN2 HN3 hs1 hs2 hs3
        by_cases h0 : b = 0 ∨ c = 0 ∨ d = 0
        · have HNo := Lib.hid (show relT 1048576 lim1 l = none from by
            rw [HQ.out, show count = j + 1 + (count - j - 1) by omega, reps_stop (count - j - 1) j HJ.out.1 (HAH.out.trans (if_pos h0))])
          have B0 := HJ.out.2.2.2.1
          have HBl := Lib.hid HJ.out.2.2.1
          rcases (show b = 0 ∨ (b ≠ 0 ∧ c = 0) ∨ (b ≠ 0 ∧ c ≠ 0 ∧ d = 0) by omega) with h1 | ⟨h1, h2⟩ | ⟨h1, h2, h3⟩
          · have e1 : ((b : Int) == 0) = true := by simp; omega
            clear h0 h1
            obtain ⟨f0, f1, f2, f3, f4, f5⟩ := B0.free
            have t1 : Turns (fun g => g = w.heap.size) wr ((((((wr.setCell ⟨w.heap.size, 0, none⟩ (.string ⟨#[]⟩)).setCell ⟨w.heap.size, 1, none⟩ (.slice none 0 0)).setCell ⟨w.heap.size, 2, none⟩ (.int .i64 0)).setCell ⟨w.heap.size, 3, none⟩ (.string ⟨#[]⟩)).setCell ⟨w.heap.size, 4, none⟩ (.string ⟨#[]⟩)).setCell ⟨w.heap.size, 5, none⟩ (.slice none 0 0)) := (((((((Turns.refl (fun g => g = w.heap.size) wr).setCell (p := ⟨w.heap.size, 0, none⟩) rfl (.string ⟨#[]⟩)).setCell (p := ⟨w.heap.size, 1, none⟩) rfl (.slice none 0 0)).setCell (p := ⟨w.heap.size, 2, none⟩) rfl (.int .i64 0)).setCell (p := ⟨w.heap.size, 3, none⟩) rfl (.string ⟨#[]⟩)).setCell (p := ⟨w.heap.size, 4, none⟩) rfl (.string ⟨#[]⟩)).setCell (p := ⟨w.heap.size, 5, none⟩) rfl (.slice none 0 0))
            have HF := Lib.hid (And.intro (show C6 (w.heap.size) tRl (.string ⟨#[]⟩) (.slice none 0 0) (.int .i64 0) (.string ⟨#[]⟩) (.string ⟨#[]⟩) (.slice none 0 0) ((((((wr.setCell ⟨w.heap.size, 0, none⟩ (.string ⟨#[]⟩)).setCell ⟨w.heap.size, 1, none⟩ (.slice none 0 0)).setCell ⟨w.heap.size, 2, none⟩ (.int .i64 0)).setCell ⟨w.heap.size, 3, none⟩ (.string ⟨#[]⟩)).setCell ⟨w.heap.size, 4, none⟩ (.string ⟨#[]⟩)).setCell ⟨w.heap.size, 5, none⟩ (.slice none 0 0)) from (Lib.heap_setCell_same (i := 5) (Lib.heap_setCell_same (i := 4) (Lib.heap_setCell_same (i := 3) (Lib.heap_setCell_same (i := 2) (Lib.heap_setCell_same (i := 1) (Lib.heap_setCell_same (i := 0) B0 (.string ⟨#[]⟩)) (.slice none 0 0)) (.int .i64 0)) (.string ⟨#[]⟩)) (.string ⟨#[]⟩)) (.slice none 0 0))) (HBl.out.trans (t1.below HBl.out.size fun k hk => by omega)))
            obtain ⟨c0, c1, c2, c3, c4, c5⟩ := B0.cells
            clear t1
            go_wp2_with fail
            generalize ((((((wr.setCell ⟨w.heap.size, 0, none⟩ (.string ⟨#[]⟩)).setCell ⟨w.heap.size, 1, none⟩ (.slice none 0 0)).setCell ⟨w.heap.size, 2, none⟩ (.int .i64 0)).setCell ⟨w.heap.size, 3, none⟩ (.string ⟨#[]⟩)).setCell ⟨w.heap.size, 4, none⟩ (.string ⟨#[]⟩)).setCell ⟨w.heap.size, 5, none⟩ (.slice none 0 0)) = F at *
            obtain ⟨g0, g1, g2, g3, g4, g5⟩ := HF.out.1.cells
            exact bodyPost_ret (v := .tuple #[relV zR (.slice none 0 0) (.slice none 0 0), .int .i64 0]) (by simp [results, Tryd.results16, go_sem, g0, g1, g2, g3, g4, g5, relV, zR, Nd.kind, Nd.ta, Nd.tb, none0]) rfl ⟨HF.out.2, .inl ⟨HNo.out, rfl⟩⟩
          · have e1 : ((b : Int) == 0) = false := by simp; omega
            have e2 : ((c : Int) == 0) = true := by simp; omega
            clear h0 h1 h2
            obtain ⟨f0, f1, f2, f3, f4, f5⟩ := B0.free
            have t1 : Turns (fun g => g = w.heap.size) wr ((((((wr.setCell ⟨w.heap.size, 0, none⟩ (.string ⟨#[]⟩)).setCell ⟨w.heap.size, 1, none⟩ (.slice none 0 0)).setCell ⟨w.heap.size, 2, none⟩ (.int .i64 0)).setCell ⟨w.heap.size, 3, none⟩ (.string ⟨#[]⟩)).setCell ⟨w.heap.size, 4, none⟩ (.string ⟨#[]⟩)).setCell ⟨w.heap.size, 5, none⟩ (.slice none 0 0)) := (((((((Turns.refl (fun g => g = w.heap.size) wr).setCell (p := ⟨w.heap.size, 0, none⟩) rfl (.string ⟨#[]⟩)).setCell (p := ⟨w.heap.size, 1, none⟩) rfl (.slice none 0 0)).setCell (p := ⟨w.heap.size, 2, none⟩) rfl (.int .i64 0)).setCell (p := ⟨w.heap.size, 3, none⟩) rfl (.string ⟨#[]⟩)).setCell (p := ⟨w.heap.size, 4, none⟩) rfl (.string ⟨#[]⟩)).setCell (p := ⟨w.heap.size, 5, none⟩) rfl (.slice none 0 0))
            have HF := Lib.hid (And.intro (show C6 (w.heap.size) tRl (.string ⟨#[]⟩) (.slice none 0 0) (.int .i64 0) (.string ⟨#[]⟩) (.string ⟨#[]⟩) (.slice none 0 0) ((((((wr.setCell ⟨w.heap.size, 0, none⟩ (.string ⟨#[]⟩)).setCell ⟨w.heap.size, 1, none⟩ (.slice none 0 0)).setCell ⟨w.heap.size, 2, none⟩ (.int .i64 0)).setCell ⟨w.heap.size, 3, none⟩ (.string ⟨#[]⟩)).setCell ⟨w.heap.size, 4, none⟩ (.string ⟨#[]⟩)).setCell ⟨w.heap.size, 5, none⟩ (.slice none 0 0)) from (Lib.heap_setCell_same (i := 5) (Lib.heap_setCell_same (i := 4) (Lib.heap_setCell_same (i := 3) (Lib.heap_setCell_same (i := 2) (Lib.heap_setCell_same (i := 1) (Lib.heap_setCell_same (i := 0) B0 (.string ⟨#[]⟩)) (.slice none 0 0)) (.int .i64 0)) (.string ⟨#[]⟩)) (.string ⟨#[]⟩)) (.slice none 0 0))) (HBl.out.trans (t1.below HBl.out.size fun k hk => by omega)))
            obtain ⟨c0, c1, c2, c3, c4, c5⟩ := B0.cells
            clear t1
            go_wp2_with fail
            generalize ((((((wr.setCell ⟨w.heap.size, 0, none⟩ (.string ⟨#[]⟩)).setCell ⟨w.heap.size, 1, none⟩ (.slice none 0 0)).setCell ⟨w.heap.size, 2, none⟩ (.int .i64 0)).setCell ⟨w.heap.size, 3, none⟩ (.string ⟨#[]⟩)).setCell ⟨w.heap.size, 4, none⟩ (.string ⟨#[]⟩)).setCell ⟨w.heap.size, 5, none⟩ (.slice none 0 0)) = F at *
            obtain ⟨g0, g1, g2, g3, g4, g5⟩ := HF.out.1.cells
            exact bodyPost_ret (v := .tuple #[relV zR (.slice none 0 0) (.slice none 0 0), .int .i64 0]) (by simp [results, Tryd.results16, go_sem, g0, g1, g2, g3, g4, g5, relV, zR, Nd.kind, Nd.ta, Nd.tb, none0]) rfl ⟨HF.out.2, .inl ⟨HNo.out, rfl⟩⟩
          · have e1 : ((b : Int) == 0) = false := by simp; omega
            have e2 : ((c : Int) == 0) = false := by simp; omega
            have e3 : ((d : Int) == 0) = true := by simp; omega
            clear h0 h1 h2 h3
            obtain ⟨f0, f1, f2, f3, f4, f5⟩ := B0.free
            have t1 : Turns (fun g => g = w.heap.size) wr ((((((wr.setCell ⟨w.heap.size, 0, none⟩ (.string ⟨#[]⟩)).setCell ⟨w.heap.size, 1, none⟩ (.slice none 0 0)).setCell ⟨w.heap.size, 2, none⟩ (.int .i64 0)).setCell ⟨w.heap.size, 3, none⟩ (.string ⟨#[]⟩)).setCell ⟨w.heap.size, 4, none⟩ (.string ⟨#[]⟩)).setCell ⟨w.heap.size, 5, none⟩ (.slice none 0 0)) := (((((((Turns.refl (fun g => g = w.heap.size) wr).setCell (p := ⟨w.heap.size, 0, none⟩) rfl (.string ⟨#[]⟩)).setCell (p := ⟨w.heap.size, 1, none⟩) rfl (.slice none 0 0)).setCell (p := ⟨w.heap.size, 2, none⟩) rfl (.int .i64 0)).setCell (p := ⟨w.heap.size, 3, none⟩) rfl (.string ⟨#[]⟩)).setCell (p := ⟨w.heap.size, 4, none⟩) rfl (.string ⟨#[]⟩)).setCell (p := ⟨w.heap.size, 5, none⟩) rfl (.slice none 0 0))
            have HF := Lib.hid (And.intro (show C6 (w.heap.size) tRl (.string ⟨#[]⟩) (.slice none 0 0) (.int .i64 0) (.string ⟨#[]⟩) (.string ⟨#[]⟩) (.slice none 0 0) ((((((wr.setCell ⟨w.heap.size, 0, none⟩ (.string ⟨#[]⟩)).setCell ⟨w.heap.size, 1, none⟩ (.slice none 0 0)).setCell ⟨w.heap.size, 2, none⟩ (.int .i64 0)).setCell ⟨w.heap.size, 3, none⟩ (.string ⟨#[]⟩)).setCell ⟨w.heap.size, 4, none⟩ (.string ⟨#[]⟩)).setCell ⟨w.heap.size, 5, none⟩ (.slice none 0 0)) from (Lib.heap_setCell_same (i := 5) (Lib.heap_setCell_same (i := 4) (Lib.heap_setCell_same (i := 3) (Lib.heap_setCell_same (i := 2) (Lib.heap_setCell_same (i := 1) (Lib.heap_setCell_same (i := 0) B0 (.string ⟨#[]⟩)) (.slice none 0 0)) (.int .i64 0)) (.string ⟨#[]⟩)) (.string ⟨#[]⟩)) (.slice none 0 0))) (HBl.out.trans (t1.below HBl.out.size fun k hk => by omega)))
            obtain ⟨c0, c1, c2, c3, c4, c5⟩ := B0.cells
            clear t1
            go_wp2_with fail
            generalize ((((((wr.setCell ⟨w.heap.size, 0, none⟩ (.string ⟨#[]⟩)).setCell ⟨w.heap.size, 1, none⟩ (.slice none 0 0)).setCell ⟨w.heap.size, 2, none⟩ (.int .i64 0)).setCell ⟨w.heap.size, 3, none⟩ (.string ⟨#[]⟩)).setCell ⟨w.heap.size, 4, none⟩ (.string ⟨#[]⟩)).setCell ⟨w.heap.size, 5, none⟩ (.slice none 0 0)) = F at *
            obtain ⟨g0, g1, g2, g3, g4, g5⟩ := HF.out.1.cells
            exact bodyPost_ret (v := .tuple #[relV zR (.slice none 0 0) (.slice none 0 0), .int .i64 0]) (by simp [results, Tryd.results16, go_sem, g0, g1, g2, g3, g4, g5, relV, zR, Nd.kind, Nd.ta, Nd.tb, none0]) rfl ⟨HF.out.2, .inl ⟨HNo.out, rfl⟩⟩
        · have hat := HAH.out.trans (if_neg h0)
          have e1 : ((b : Int) == 0) = false := by simp; omega
          have e2 : ((c : Int) == 0) = false := by simp; omega
          have e3 : ((d : Int) == 0) = false := by simp; omega
          have HN := Lib.hid (show repsT allowT (j + 1) (l.drop (a + q)) = some (xs ++ [⟨ty, rl, wd⟩], l.drop (pos + b + c + d)) ∧ 1 ≤ b from ⟨reps_snoc j HJ.out.1 hat, by omega⟩)
          obtain ⟨ro, rc, rfl⟩ := HJ.out.2.2.2.2.2.slice
          have al := new1 wr (.cells #[.string ty, .string rl, .bool wd] tAl)
          have hlw := HJ.out.2.2.2.2.1.lt
          have HA := Lib.hid (And.intro (HJ.out.2.2.2.2.2.below al) (And.intro (heap_alloc_new wr (.cells #[.string ty, .string rl, .bool wd] tAl)) (And.intro (show w.heap.size + 2 ≤ wr.heap.size by omega) (And.intro (show ∀ k, Value.ownBlock (.slice ro xs.length rc) = some k → k < wr.heap.size from fun k hk => (HJ.out.2.2.2.2.2.own_lt hk).2) (And.intro (show w.heap.size + 2 ≤ (wr.alloc (.cells #[.string ty, .string rl, .bool wd] tAl)).heap.size from by have := al.size; omega) (And.intro (show xs.length ≤ 100000 by have := HJ.out.2.1; omega) (And.intro (HJ.out.2.2.2.2.1.on al) (And.intro (HJ.out.2.2.2.1.on al) (HJ.out.2.2.1.trans (al.mono HJ.out.2.2.1.size))))))))))
          have HJl := Lib.hid HJ.out.2.1
          obtain ⟨ti, tz, tb, TE, hT⟩ := elA
          have HTE := Lib.hid (And.intro TE hT)
          obtain ⟨-, k1, -⟩ := HJ.out.2.2.2.2.1.cells
          clear h0 hat HAH al hlw TE hT HJ
          go_wp2_with (at_builtin; refine walk_add (E := allowE) (X := fun _ => False) (a := ⟨ty, rl, wd⟩) (u := alV ⟨ty, rl, wd⟩) HTE.out.1 HTE.out.2 rfl _ _ rfl rfl rfl HA.out.1 HA.out.2.1 rfl HA.out.2.2.1 HA.out.2.2.2.1 HA.out.2.2.2.2.1 (fun _ _ h => h) HA.out.2.2.2.2.2.1 ?_)
          intro v' y' hrow' htn
          obtain ⟨ro2, rc2, ev⟩ := hrow'.slice
          rw [List.length_append, List.length_singleton] at ev
          subst ev
          have hne : ∀ g, g < w.heap.size + 2 → ¬ Value.ownBlock (.slice ro xs.length rc) = some g := fun g hg h => by
            have := (HA.out.1.own_lt h).1
            omega
          have B1 := HA.out.2.2.2.2.2.2.1.turn htn (hne _ (by omega))
          have B0 := HA.out.2.2.2.2.2.2.2.1.turn htn (hne _ (by omega))
          have hbl := HA.out.2.2.2.2.2.2.2.2.trans (htn.below HA.out.2.2.2.2.2.2.2.2.size fun g hg => by have := (HA.out.1.own_lt hg).1; omega)
          have t1 : Turns (fun g => g = w.heap.size + 1) y' (y'.setCell ⟨w.heap.size + 1, 1, none⟩ (.slice ro2 (xs.length + 1) rc2)) := (Turns.refl (fun g => g = w.heap.size + 1) y').setCell (p := ⟨w.heap.size + 1, 1, none⟩) rfl _
          have HF := Lib.hid (And.intro (hbl.trans (t1.below hbl.size fun g hg => by omega)) (And.intro (B0.turn t1 (by omega)) (And.intro (show C6 (w.heap.size + 1) tRl (.string name) (.slice ro2 (xs.length + 1) rc2) (.int .i64 0) (.string ⟨#[]⟩) (.string ⟨#[]⟩) (.slice none 0 0) (y'.setCell ⟨w.heap.size + 1, 1, none⟩ (.slice ro2 (xs.length + 1) rc2)) from Lib.heap_setCell_same (i := 1) B1 _) (hrow'.turn t1 fun g h1 _ h2 => by omega))))
          clear k1
          obtain ⟨-, k1, -⟩ := B1.cells
          obtain ⟨-, f1, -⟩ := B1.free
          clear hrow' htn hne B0 B1 hbl t1 HA HTE e1 e2 e3
          go_wp2_with fail
          clear k1 f1
          generalize y'.setCell ⟨w.heap.size + 1, 1, none⟩ (.slice ro2 (xs.length + 1) rc2) = F at *
          go_roundw
          case rel => exact ⟨j + 1, pos + b + c + d, xs ++ [⟨ty, rl, wd⟩], _, by go_num, by go_num, by omega, gd, by have := HN.out.2; omega, Lib.hid ⟨HN.out.1, by rw [List.length_append, HJl.out]; rfl, HF.out.1, HF.out.2.1, HF.out.2.2.1, HF.out.2.2.2⟩⟩
          case measure => simp [intOf]; omega
      · have hj' : j = count := by omega
        subst hj'
        have hq := HQ.out
        rw [HJ.out.1] at hq
        simp only at hq
        have hs1 := slice_from s (pos : Int) pos rfl (by omega)
        rw [← HLn.out.1] at hs1
        have HD := Lib.hid (dnode_any 8 (Nat.le_refl _) (bs (l.drop pos)) wr (by rw [bs_size, List.length_drop]; omega))
        rw [bs_list] at HD
        generalize bs (l.drop pos) = u1 at *
        obtain ⟨ro, rc, rfl⟩ := HJ.out.2.2.2.2.2.slice
        go_wp2_with fail
        refine HD.out.mono ?_
        rintro e y ⟨hby, ⟨hno, rfl⟩ | ⟨n, z, m, v, hn, ⟨hk1, hk2, hk3⟩, rfl, hv⟩⟩
        · rw [hno] at hq
          have HNo := Lib.hid (show relT 1048576 lim1 l = none from hq)
          have hbx := hby.trans ((new1 y (.cells #[.int .i64 0, .string none0, .string none0, .slice none 0 0] tNd)).mono hby.size)
          have B0 := HJ.out.2.2.2.1.on hbx
          have HBl := Lib.hid (HJ.out.2.2.1.trans (hbx.mono HJ.out.2.2.1.size))
          clear hq hno hby hbx hs1 HD
          go_upto_region 18 with fail
          generalize y.alloc (.cells #[.int .i64 0, .string none0, .string none0, .slice none 0 0] tNd) = Y at *
          obtain ⟨f0, f1, f2, f3, f4, f5⟩ := B0.free
          have t1 : Turns (fun g => g = w.heap.size) Y ((((((Y.setCell ⟨w.heap.size, 0, none⟩ (.string ⟨#[]⟩)).setCell ⟨w.heap.size, 1, none⟩ (.slice none 0 0)).setCell ⟨w.heap.size, 2, none⟩ (.int .i64 0)).setCell ⟨w.heap.size, 3, none⟩ (.string ⟨#[]⟩)).setCell ⟨w.heap.size, 4, none⟩ (.string ⟨#[]⟩)).setCell ⟨w.heap.size, 5, none⟩ (.slice none 0 0)) := (((((((Turns.refl (fun g => g = w.heap.size) Y).setCell (p := ⟨w.heap.size, 0, none⟩) rfl (.string ⟨#[]⟩)).setCell (p := ⟨w.heap.size, 1, none⟩) rfl (.slice none 0 0)).setCell (p := ⟨w.heap.size, 2, none⟩) rfl (.int .i64 0)).setCell (p := ⟨w.heap.size, 3, none⟩) rfl (.string ⟨#[]⟩)).setCell (p := ⟨w.heap.size, 4, none⟩) rfl (.string ⟨#[]⟩)).setCell (p := ⟨w.heap.size, 5, none⟩) rfl (.slice none 0 0))
          have HF := Lib.hid (And.intro (show C6 (w.heap.size) tRl (.string ⟨#[]⟩) (.slice none 0 0) (.int .i64 0) (.string ⟨#[]⟩) (.string ⟨#[]⟩) (.slice none 0 0) ((((((Y.setCell ⟨w.heap.size, 0, none⟩ (.string ⟨#[]⟩)).setCell ⟨w.heap.size, 1, none⟩ (.slice none 0 0)).setCell ⟨w.heap.size, 2, none⟩ (.int .i64 0)).setCell ⟨w.heap.size, 3, none⟩ (.string ⟨#[]⟩)).setCell ⟨w.heap.size, 4, none⟩ (.string ⟨#[]⟩)).setCell ⟨w.heap.size, 5, none⟩ (.slice none 0 0)) from (Lib.heap_setCell_same (i := 5) (Lib.heap_setCell_same (i := 4) (Lib.heap_setCell_same (i := 3) (Lib.heap_setCell_same (i := 2) (Lib.heap_setCell_same (i := 1) (Lib.heap_setCell_same (i := 0) B0 (.string ⟨#[]⟩)) (.slice none 0 0)) (.int .i64 0)) (.string ⟨#[]⟩)) (.string ⟨#[]⟩)) (.slice none 0 0))) (HBl.out.trans (t1.below HBl.out.size fun k hk => by omega)))
          obtain ⟨c0, c1, c2, c3, c4, c5⟩ := B0.cells
          clear t1
          go_wp2_with fail
          generalize ((((((Y.setCell ⟨w.heap.size, 0, none⟩ (.string ⟨#[]⟩)).setCell ⟨w.heap.size, 1, none⟩ (.slice none 0 0)).setCell ⟨w.heap.size, 2, none⟩ (.int .i64 0)).setCell ⟨w.heap.size, 3, none⟩ (.string ⟨#[]⟩)).setCell ⟨w.heap.size, 4, none⟩ (.string ⟨#[]⟩)).setCell ⟨w.heap.size, 5, none⟩ (.slice none 0 0)) = F at *
          obtain ⟨g0, g1, g2, g3, g4, g5⟩ := HF.out.1.cells
          exact bodyPost_ret (v := .tuple #[relV zR (.slice none 0 0) (.slice none 0 0), .int .i64 0]) (by simp [results, Tryd.results16, go_sem, g0, g1, g2, g3, g4, g5, relV, zR, Nd.kind, Nd.ta, Nd.tb, none0]) rfl ⟨HF.out.2, .inl ⟨HNo.out, rfl⟩⟩
        · rw [hn] at hq
          simp only at hq
          obtain ⟨vo, vc, vks, ev, -⟩ := hv.open
          subst ev
          have hbx := hby.trans ((new1 y (.cells #[.int .i64 n.kind, .string n.ta, .string n.tb, .slice vo n.kids.length vc] tNd)).mono hby.size)
          have HX := C4.new y tNd (.int .i64 n.kind) (.string n.ta) (.string n.tb) (.slice vo n.kids.length vc)
          have hV := Gr.NodeS.below hv (new1 y (.cells #[.int .i64 n.kind, .string n.ta, .string n.tb, .slice vo n.kids.length vc] tNd))
          have hW := HJ.out.2.2.1.trans (hbx.mono HJ.out.2.2.1.size)
          have B0 := HJ.out.2.2.2.1.on hbx
          have B1 := HJ.out.2.2.2.2.1.on hbx
          have hR := HJ.out.2.2.2.2.2.below hbx
          have hlw := HJ.out.2.2.2.2.1.lt
          have ek : ((m : Int) == 0) = false := by simp; omega
          rw [List.length_drop] at hk2
          have HE := Lib.hid (show relT 1048576 lim1 l = some (⟨name, xs, n⟩, l.drop (pos + m)) ∧ pos + m ≤ l.length ∧ 1 ≤ m from ⟨by rw [hq, ← hk3, List.drop_drop], by omega, hk1⟩)
          have hpm := HE.out.2.1
          clear hq hn hk1 hk2 hk3 hv hby hbx hs1 HD
          go_upto_region 20 with fail
          generalize y.alloc (.cells #[.int .i64 n.kind, .string n.ta, .string n.tb, .slice vo n.kids.length vc] tNd) = Y at *
          generalize y.heap.size = RX at *
          have t1 : Turns (fun g => g = w.heap.size + 1) Y ((((Y.setCell ⟨w.heap.size + 1, 2, none⟩ (.int .i64 n.kind)).setCell ⟨w.heap.size + 1, 3, none⟩ (.string n.ta)).setCell ⟨w.heap.size + 1, 4, none⟩ (.string n.tb)).setCell ⟨w.heap.size + 1, 5, none⟩ (.slice vo n.kids.length vc)) := (((((Turns.refl (fun g => g = w.heap.size + 1) Y).setCell (p := ⟨w.heap.size + 1, 2, none⟩) rfl (.int .i64 n.kind)).setCell (p := ⟨w.heap.size + 1, 3, none⟩) rfl (.string n.ta)).setCell (p := ⟨w.heap.size + 1, 4, none⟩) rfl (.string n.tb)).setCell (p := ⟨w.heap.size + 1, 5, none⟩) rfl (.slice vo n.kids.length vc))
          have B1' : C6 (w.heap.size + 1) tRl (.string name) (.slice ro xs.length rc) (.int .i64 n.kind) (.string n.ta) (.string n.tb) (.slice vo n.kids.length vc) ((((Y.setCell ⟨w.heap.size + 1, 2, none⟩ (.int .i64 n.kind)).setCell ⟨w.heap.size + 1, 3, none⟩ (.string n.ta)).setCell ⟨w.heap.size + 1, 4, none⟩ (.string n.tb)).setCell ⟨w.heap.size + 1, 5, none⟩ (.slice vo n.kids.length vc)) := (Lib.heap_setCell_same (i := 5) (Lib.heap_setCell_same (i := 4) (Lib.heap_setCell_same (i := 3) (Lib.heap_setCell_same (i := 2) B1 (.int .i64 n.kind)) (.string n.ta)) (.string n.tb)) (.slice vo n.kids.length vc))
          have B0' := B0.turn t1 (by omega)
          have hW' := hW.trans (t1.below hW.size fun g hg => by omega)
          have hR' := hR.turn t1 fun g h1 _ h2 => by omega
          have hV' := hV.turn t1 (fun g hg _ e => by omega) fun g hg _ => hg
          obtain ⟨x0, x1, x2, x3⟩ := HX.cells
          obtain ⟨-, -, k2, k3, k4, k5⟩ := B1.cells
          obtain ⟨-, -, f2, f3, f4, f5⟩ := B1.free
          clear HX hV hW B0 B1 hR t1 ek
          go_upto_region 21 with fail
          clear x0 x1 x2 x3 k2 k3 k4 k5 f2 f3 f4 f5
          generalize ((((Y.setCell ⟨w.heap.size + 1, 2, none⟩ (.int .i64 n.kind)).setCell ⟨w.heap.size + 1, 3, none⟩ (.string n.ta)).setCell ⟨w.heap.size + 1, 4, none⟩ (.string n.tb)).setCell ⟨w.heap.size + 1, 5, none⟩ (.slice vo n.kids.length vc)) = V at *
          have t1 : Turns (fun g => g = w.heap.size) V ((((((V.setCell ⟨w.heap.size, 0, none⟩ (.string name)).setCell ⟨w.heap.size, 1, none⟩ (.slice ro xs.length rc)).setCell ⟨w.heap.size, 2, none⟩ (.int .i64 n.kind)).setCell ⟨w.heap.size, 3, none⟩ (.string n.ta)).setCell ⟨w.heap.size, 4, none⟩ (.string n.tb)).setCell ⟨w.heap.size, 5, none⟩ (.slice vo n.kids.length vc)) := (((((((Turns.refl (fun g => g = w.heap.size) V).setCell (p := ⟨w.heap.size, 0, none⟩) rfl (.string name)).setCell (p := ⟨w.heap.size, 1, none⟩) rfl (.slice ro xs.length rc)).setCell (p := ⟨w.heap.size, 2, none⟩) rfl (.int .i64 n.kind)).setCell (p := ⟨w.heap.size, 3, none⟩) rfl (.string n.ta)).setCell (p := ⟨w.heap.size, 4, none⟩) rfl (.string n.tb)).setCell (p := ⟨w.heap.size, 5, none⟩) rfl (.slice vo n.kids.length vc))
          have HF := Lib.hid (And.intro (show C6 (w.heap.size) tRl (.string name) (.slice ro xs.length rc) (.int .i64 n.kind) (.string n.ta) (.string n.tb) (.slice vo n.kids.length vc) ((((((V.setCell ⟨w.heap.size, 0, none⟩ (.string name)).setCell ⟨w.heap.size, 1, none⟩ (.slice ro xs.length rc)).setCell ⟨w.heap.size, 2, none⟩ (.int .i64 n.kind)).setCell ⟨w.heap.size, 3, none⟩ (.string n.ta)).setCell ⟨w.heap.size, 4, none⟩ (.string n.tb)).setCell ⟨w.heap.size, 5, none⟩ (.slice vo n.kids.length vc)) from (Lib.heap_setCell_same (i := 5) (Lib.heap_setCell_same (i := 4) (Lib.heap_setCell_same (i := 3) (Lib.heap_setCell_same (i := 2) (Lib.heap_setCell_same (i := 1) (Lib.heap_setCell_same (i := 0) B0' (.string name)) (.slice ro xs.length rc)) (.int .i64 n.kind)) (.string n.ta)) (.string n.tb)) (.slice vo n.kids.length vc))) (And.intro (hW'.trans (t1.below hW'.size fun g hg => by omega)) (And.intro (hR'.turn t1 fun g h1 _ h2 => by omega) (hV'.turn t1 (fun g hg _ e => by omega) fun g hg _ => hg))))
          obtain ⟨k0, k1, k2, k3, k4, k5⟩ := B1'.cells
          obtain ⟨c0, c1, c2, c3, c4, c5⟩ := B0'.cells
          obtain ⟨f0, f1, f2, f3, f4, f5⟩ := B0'.free
          clear t1 B0' B1' hW' hR' hV'
          go_wp2_with fail
          clear c0 c1 c2 c3 c4 c5 f0 f1 f2 f3 f4 f5 k0 k1 k2 k3 k4 k5
          generalize ((((((V.setCell ⟨w.heap.size, 0, none⟩ (.string name)).setCell ⟨w.heap.size, 1, none⟩ (.slice ro xs.length rc)).setCell ⟨w.heap.size, 2, none⟩ (.int .i64 n.kind)).setCell ⟨w.heap.size, 3, none⟩ (.string n.ta)).setCell ⟨w.heap.size, 4, none⟩ (.string n.tb)).setCell ⟨w.heap.size, 5, none⟩ (.slice vo n.kids.length vc)) = F at *
          obtain ⟨g0, g1, g2, g3, g4, g5⟩ := HF.out.1.cells
          refine bodyPost_ret (v := .tuple #[relV ⟨name, xs, n⟩ (.slice ro xs.length rc) (.slice vo n.kids.length vc), .int .i64 ((pos : Int) + (m : Int))]) (by simp [results, Tryd.results16, go_sem, g0, g1, g2, g3, g4, g5, relV]) rfl ⟨HF.out.2.1, .inr ⟨_, l.drop (pos + m), pos + m, _, HE.out.1, ⟨by omega, by rw [List.length_drop]; omega, rfl⟩, by rw [Int.natCast_add], ?_⟩⟩
          exact ⟨ro, rc, vo, vc, _, rfl, HF.out.2.2.1.rows, fun k hk => by have := (HF.out.2.2.1.own_lt hk).1; omega, HF.out.2.2.2.turn (Turns.refl (fun _ => False) _) (fun _ _ _ h => h) fun g hg _ => by omega⟩
end Ck
end Go.Proofs.YtopncohhagebbaaDoor
