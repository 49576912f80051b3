/-
  Layer 13: tray and spool side by side; the document's examples, walked.
  Layer 13: tray and spool side by side: a cut; appends without an end of power.
  Layer 13's statements: whether two lists of records are the same.
-/
import Derived.Test.YtkfmmdiflbnhgaaSgpC
import Derived.Lib.SmallJoins
namespace Go.Proofs.Ytkfmmdiflbnhgaa
set_option maxRecDepth 100000
open Go.RowKit
open Knot (Turns NewRow)
open Ta (IsBytes Stay sec nul ptr IsT Tray Made Grow)
namespace Sp
/-! ### pure -/
theorem ofO_nul : ofO nul = 0 := by decide +kernel
theorem found_none {t : Tray (List UInt8)} {s : S} (h : ofO (rdS t s s.tail) = 0) : found t s = ([], s.tail) := find_none (rec_none fun hh => by have := hh.1; omega)
theorem found_fresh (s : S) : found Tray.fresh s = ([], s.tail) := found_none ofO_nul
theorem put_cache (t : Tray (List UInt8)) (k : Int) (b : List UInt8) : (t.put k b).cache.length ≤ t.cache.length + 1 := by
  unfold Tray.put
  split
  · exact Nat.le_succ _
  · simp
theorem wr_cache (s : S) (b : List UInt8) (o : Nat) : ∀ (f k : Nat) (t : Tray (List UInt8)), (wr s b o f k t).1.cache.length ≤ t.cache.length + f
  | 0, k, t => Nat.le_refl _
  | f + 1, k, t => by
    by_cases h : t.left = 0
    · rw [wr_stop h]
      exact Nat.le_add_right _ _
    · rw [wr_go h]
      have h1 := wr_cache s b o f (k + 1) (t.put (s.at (s.tail + k) : Nat) (s.sector b o k))
      have h2 := put_cache t (s.at (s.tail + k) : Nat) (s.sector b o k)
      omega
theorem wrote_cache (s : S) (b : List UInt8) (o : Nat) (t : Tray (List UInt8)) : (wrote s b o t).1.cache.length ≤ t.cache.length + o := by
  have h := wr_cache s b o o 0 t
  unfold wrote
  simp only
  split
  · split
    · exact h
    · exact Nat.le_trans (Ta.flush_few _) h
  · exact h
theorem append_cache (s : S) (b : List UInt8) (t : Tray (List UInt8)) : (append s b t).1.cache.length ≤ t.cache.length + parts b.length := by
  have h := wrote_cache s b (parts b.length) t
  unfold append
  split
  · exact Nat.le_add_right _ _
  · split
    · exact Nat.le_add_right _ _
    · split
      · exact Nat.le_add_right _ _
      · split
        · exact h
        · exact h
/-- What an append leaves as it is. -/
theorem append_same (s : S) (b : List UInt8) (t : Tray (List UInt8)) : (append s b t).2.1.first = s.first ∧ (append s b t).2.1.count = s.count ∧ (append s b t).2.1.head = s.head ∧ (append s b t).2.1.epoch = s.epoch ∧ s.tail ≤ (append s b t).2.1.tail ∧ (append s b t).2.1.tail ≤ s.tail + parts b.length := by
  unfold append
  split
  · exact ⟨rfl, rfl, rfl, rfl, Nat.le_refl _, Nat.le_add_right _ _⟩
  · split
    · exact ⟨rfl, rfl, rfl, rfl, Nat.le_refl _, Nat.le_add_right _ _⟩
    · split
      · exact ⟨rfl, rfl, rfl, rfl, Nat.le_refl _, Nat.le_add_right _ _⟩
      · split
        · exact ⟨rfl, rfl, rfl, rfl, Nat.le_add_right _ _, Nat.le_refl _⟩
        · exact ⟨rfl, rfl, rfl, rfl, Nat.le_refl _, Nat.le_add_right _ _⟩
/-- Without an end of power all is written. -/
theorem wr_free (s : S) (b : List UInt8) (o : Nat) : ∀ (f k : Nat) (t : Tray (List UInt8)), t.left = -1 → (wr s b o f k t).2 = true ∧ (wr s b o f k t).1.left = -1
  | 0, k, t, h => ⟨rfl, h⟩
  | f + 1, k, t, h => by
    rw [wr_go (by omega)]
    exact wr_free s b o f (k + 1) _ (Tray.put_left h _ _)
theorem wrote_free (s : S) (b : List UInt8) (o : Nat) (t : Tray (List UInt8)) (h : t.left = -1) : (wrote s b o t).2 = true ∧ (wrote s b o t).1.left = -1 := by
  obtain ⟨h1, h2⟩ := wr_free s b o o 0 t h
  unfold wrote
  simp only [h1, if_true]
  rw [if_neg (by omega)]
  exact ⟨rfl, Tray.flush_left h2⟩
theorem append_free {s : S} {b : List UInt8} {t : Tray (List UInt8)} (h1 : ¬ 60000 < b.length) (h2 : ¬ s.count + s.head < parts b.length + s.tail) (h3 : s.dead = false) (h : t.left = -1) :
    append s b t = ((wrote s b (parts b.length) t).1, { s with tail := s.tail + parts b.length }, 0) ∧ (append s b t).1.left = -1 := by
  have hw := wrote_free s b (parts b.length) t h
  rw [append_goes h1 h2 h3 hw.1]
  exact ⟨rfl, hw.2⟩

/-! ### tray and spool -/
structure Sys (w x : World) (p q n : Nat) (t : Tray (List UInt8)) (s : S) (F : Nat → Prop) : Prop where
  below : Below w.heap.size w x
  tray : IsT x p n t F
  spool : SpB x q p s
  fits : Fits s
  room : s.first + s.count ≤ n
  off : ¬ F q
  new : ∀ k, F k → w.heap.size ≤ k
  newq : w.heap.size ≤ q
section
variable {w x y : World} {p q n : Nat} {t : Tray (List UInt8)} {s : S} {F : Nat → Prop}
theorem Sys.on (h : Sys w x p q n t s F) (hb : Below x.heap.size x y) : Sys w y p q n t s F :=
  ⟨h.below.trans (hb.mono h.below.size), h.tray.below hb, h.spool.on hb, h.fits, h.room, h.off, h.new, h.newq⟩
/-- A block that is none of theirs turns. -/
theorem Sys.turn {G : Nat → Prop} (h : Sys w x p q n t s F) (ht : Turns G x y) (hG : ∀ k, G k → w.heap.size ≤ k ∧ ¬ F k ∧ k ≠ q) : Sys w y p q n t s F :=
  ⟨h.below.trans (ht.below h.below.size fun k hk => (hG k hk).1), h.tray.turn ht fun k hk hg => (hG k hg).2.1 hk, h.spool.turn ht fun hg => (hG q hg).2.2 rfl, h.fits, h.room, h.off, h.new, h.newq⟩
theorem Sys.append (h : Sys w x p q n t s F) (v : Value) (b : List UInt8) (hv : Stay F x fun x => IsBytes x v b) (hb : b.length ≤ 1000000) (hc : t.cache.length ≤ 90000) (htl : s.tail ≤ 70368744177664) :
    Calls Try.prog 23 #[ptr q, v] x fun e y => e = .returned (.int .i64 (Sp.append s b t).2.2) ∧ ∃ F', Sys w y p q n (Sp.append s b t).1 (Sp.append s b t).2.1 F' ∧ (∀ k, F' k → F k ∨ x.heap.size ≤ k) ∧ Turns (fun k => F k ∨ k = q) x y := by
  refine (append_any v b h.spool h.fits h.tray h.room h.off hv hb hc).mono ?_
  rintro e y ⟨rfl, ht, hq, F', hi, hF⟩
  obtain ⟨a1, a2, a3, a4, a5, a6⟩ := append_same s b t
  have hp : parts b.length ≤ 10000 := by unfold parts; omega
  refine ⟨rfl, F', ⟨h.below.trans (ht.below h.below.size fun k hk => ?_), hi, hq, ⟨by rw [a2]; exact h.fits.count, by rw [a1]; exact h.fits.first, by rw [a3]; exact Nat.le_trans h.fits.head a5, by omega, by rw [a4]; exact h.fits.epoch⟩, by rw [a1, a2]; exact h.room, fun hk => ?_, fun k hk => ?_, h.newq⟩, hF, ht⟩
  · rcases hk with hk | hk
    · exact h.new k hk
    · rw [hk]; exact h.newq
  · rcases hF q hk with h1 | h1
    · exact h.off h1
    · have := h.spool.lt; omega
  · rcases hF k hk with h1 | h1
    · exact h.new k h1
    · have := h.below.size; omega
/-- A spool is opened upon a tray. -/
theorem sys_open {s : S} (hb : Below w.heap.size w x) (ht : IsT x p n t F) (hF : ∀ k, F k → w.heap.size ≤ k) (hs : s.tail = s.head) (hd : s.dead = false) (ho : Opens n s.first s.count s.head s.epoch) :
    Calls Try.prog 20 #[ptr p, .agg #[.int .i64 (s.first : Int), .int .i64 (s.count : Int)], .int .i64 (s.head : Int), .int .i64 (s.epoch : Int)] x fun e y => ∃ q v, e = .returned (.tuple #[ptr q, v, .int .i64 0]) ∧ Below x.heap.size x y ∧ x.heap.size ≤ q ∧
      Sys w y p q n t { s with tail := (found t s).2 } F ∧ Recs x.heap.size (fun k => k < x.heap.size ∨ k = q) y v (found t s).1 := by
  refine (open_any s hs hd ho ht).mono ?_
  rintro e y ⟨q, v, rfl, hy, hq, hsp, hr, h1, h2⟩
  obtain ⟨⟨o1, o2, o3, o4⟩, o5, o6, o7, o8⟩ := ho
  have hnum := ht.num
  refine ⟨q, v, rfl, hy, hq, ⟨hb.trans (hy.mono hb.size), ht.below hy, hsp, ⟨by show 2 ≤ s.count ∧ s.count ≤ 4096; omega, by show s.first ≤ 4096; omega, by show s.head ≤ (found t s).2; omega, by show (found t s).2 ≤ 140737488355328; omega, by show 1 ≤ s.epoch ∧ s.epoch ≤ 4294967295; omega⟩, by show s.first + s.count ≤ n; omega, fun h => ?_, hF, Nat.le_trans hb.size hq⟩, hr⟩
  have := ht.low q h
  omega
end
/-! ### lists of noughts -/
def zer (m : Nat) : List UInt8 := List.replicate m 0
theorem made_is (m : Nat) : madeCells #[.int .u8 0] m = (Lib.byteCells (zer m)).toArray := by
  refine Array.ext (by simp [madeCells, zer, Lib.byteCells]) fun i h1 h2 => ?_
  simp [madeCells, zer, Lib.byteCells, Nat.mod_one]
theorem byInfo : ∃ i, Try.prog.info? 5 = some i ∧ i.zero = some (.int .u8 0) ∧ i.size = 1 ∧ i.bytes = 1 := ⟨_, rfl, rfl, by kernel_rfl, rfl⟩
theorem make_zer (m : Nat) (hm : m ≤ 100000) (W : World) : (Instr.makeSlice 22 (.int .i64 (m : Int)) (.int .i64 (m : Int))).run Try.prog W = .ok (.slice (some ⟨W.heap.size, 0, none⟩) m m) (W.alloc (.cells (Lib.byteCells (zer m)).toArray 5)) := by
  obtain ⟨i, h1, h2, h3, h4⟩ := byInfo
  have h := run_make (P := Try.prog) W 22 5 i (.int .u8 0) Try.underlying22 h1 h2 .i64 .i64 (m : Int) (m : Int) (by omega) (Int.le_refl _) (by rw [h4]; omega) (by omega)
  rw [h3, Int.toNat_natCast, Nat.mul_one] at h
  rw [h, ← made_is]
  rfl
/-- Bytes in a block of their own. -/
theorem new_bytes (W : World) (l : List UInt8) (fr : Nat × Nat) (hm : l.length ≤ 100000) {F : Nat → Prop} (hF : ∀ k, F k → k < W.heap.size) : Stay F (W.alloc (.cells (Lib.byteCells l).toArray 5 fr)) fun x => IsBytes x (.slice (some ⟨W.heap.size, 0, none⟩) l.length l.length) l := fun y hy => by
  have hh := hy.heap (heap_alloc_new W _) fun h => by have := hF _ h; omega
  refine ⟨some ⟨W.heap.size, 0, none⟩, l.length, rfl, Nat.le_refl _, by unfold maxLen; omega, fun _ => ⟨W.heap.size, 0, rfl, fun j u hj => ?_⟩⟩
  rw [Go.Joins.cell_of_block hh, Nat.zero_add]
  simpa using hj
theorem sum_ex : crc [49, 50, 51, 52, 53, 54, 55, 56, 57] = 58124007 := by decide +kernel
theorem conv_nine (W : World) : (convert 22 22 (.slice (some ⟨W.heap.size, 0, none⟩) 9 9)).run Try.prog (W.alloc (.cells #[.int .u8 49, .int .u8 50, .int .u8 51, .int .u8 52, .int .u8 53, .int .u8 54, .int .u8 55, .int .u8 56, .int .u8 57] 5)) = .ok (.slice (some ⟨W.heap.size, 0, none⟩) 9 9) (W.alloc (.cells #[.int .u8 49, .int .u8 50, .int .u8 51, .int .u8 52, .int .u8 53, .int .u8 54, .int .u8 55, .int .u8 56, .int .u8 57] 5 (9, 10))) :=
  Go.Joins.run_convert_bytes_const_at (P := Try.prog) W 22 5 #[.int .u8 49, .int .u8 50, .int .u8 51, .int .u8 52, .int .u8 53, .int .u8 54, .int .u8 55, .int .u8 56, .int .u8 57] 9 9 W.heap.size rfl Try.underlying22 Try.underlying5
theorem nine_bytes (W : World) : IsBytes (W.alloc (.cells #[.int .u8 49, .int .u8 50, .int .u8 51, .int .u8 52, .int .u8 53, .int .u8 54, .int .u8 55, .int .u8 56, .int .u8 57] 5 (9, 10))) (.slice (some ⟨W.heap.size, 0, none⟩) 9 9) [49, 50, 51, 52, 53, 54, 55, 56, 57] :=
  (new_bytes W [49, 50, 51, 52, 53, 54, 55, 56, 57] (9, 10) (by decide) (F := fun _ => False) fun _ h => h.elim).now
def exS : S := ⟨2, 4, 0, 0, 1, false⟩
theorem ex_append : (append exS (zer 109) Tray.fresh).2 = (⟨2, 4, 0, 2, 1, false⟩, 0) := by
  rw [(append_free (s := exS) (b := zer 109) (t := Tray.fresh) (by decide) (by decide) rfl rfl).1]
  rfl
set_option maxHeartbeats 8000000 in
set_option maxRecDepth 100000 in
theorem awake_any (w : World) : Calls Try.prog 14 #[] w fun e x => e = .returned (.bool true) ∧ Below w.heap.size w x := by
  have hp8 : (8 : Int) = ((8 : Nat) : Int) := rfl
  have HN := Lib.hid (Ta.new_any 8 (by omega) w)
  clear hp8
  have h00 : ((0 : Int) != 0) = false := rfl
  go_enter Try.func14, Try.ntmps14
  go_wp2_with fail
  refine HN.out.mono ?_
  rintro e x1 ⟨p, rfl, hb, hi⟩
  have HO := Lib.hid (sys_open (s := exS) hb hi (fun k hk => hk.1) rfl rfl (by refine ⟨⟨?_, ?_, ?_, ?_⟩, ?_, ?_, ?_, ?_⟩ <;> decide))
  rw [found_fresh] at HO
  clear hb hi HN
  simp only [exS] at HO
  go_wp2_with fail
  refine HO.out.mono ?_
  rintro e x2 ⟨q, v, rfl, hx2, hq, hsys, hr⟩
  obtain ⟨ra, rc, rfl⟩ := hr.slice
  have HS := Lib.hid hsys
  clear hx2 hq hsys hr HO
  have hmk := make_zer 109 (by omega)
  rw [show ((109 : Nat) : Int) = 109 from rfl] at hmk
  go_wp2_with fail
  have hal : Below x2.heap.size x2 (x2.alloc (.cells (Lib.byteCells (zer 109)).toArray 5)) := (Below.refl _ _).alloc (Nat.le_refl _) _
  have hap := (HS.out.on hal).append (.slice (some ⟨x2.heap.size, 0, none⟩) 109 109) (zer 109) (new_bytes x2 (zer 109) (0, 0) (by decide) fun k hk => HS.out.tray.low k hk) (by decide) (by decide) (by decide)
  change Calls _ _ _ _ (fun e y => e = .returned (.int .i64 (append exS (zer 109) Tray.fresh).2.2) ∧ ∃ F', Sys w y p q 8 (append exS (zer 109) Tray.fresh).1 (append exS (zer 109) Tray.fresh).2.1 F' ∧ _) at hap
  rw [ex_append] at hap
  have HA := Lib.hid hap
  clear hap hal hmk
  refine HA.out.mono ?_
  rintro e x3 ⟨rfl, F', hs3, -⟩
  have HR := Lib.hid (room_any hs3.spool hs3.fits)
  have HS3 := Lib.hid hs3
  clear hs3 HA HS
  simp only at HR
  go_wp2_with fail
  refine HR.out.mono ?_
  rintro e x4 ⟨rfl, hx4⟩
  have HB := Lib.hid (HS3.out.below.trans (hx4.mono HS3.out.below.size))
  clear hx4 HR HS3
  have hcv := conv_nine
  have HQ := Lib.hid (sum_any _ _ _ (nine_bytes x4))
  rw [sum_ex] at HQ
  have h58 : ((58124007 : Nat) : Int) = 58124007 := rfl
  rw [h58] at HQ
  clear h58
  have hb5 : Below w.heap.size w (x4.alloc (.cells #[.int .u8 49, .int .u8 50, .int .u8 51, .int .u8 52, .int .u8 53, .int .u8 54, .int .u8 55, .int .u8 56, .int .u8 57] 5 (9, 10))) := HB.out.alloc HB.out.size _
  have HB5 := Lib.hid hb5
  clear hb5
  go_wp2_with fail
  refine HQ.out.mono ?_
  rintro e x5 ⟨rfl, hx5⟩
  have HE := Lib.hid (HB5.out.trans (hx5.mono HB5.out.size))
  clear hx5 HQ
  go_wp2_with fail
  go_ret
  exact ⟨rfl, HE.out⟩
end Sp
end Go.Proofs.Ytkfmmdiflbnhgaa

namespace Go.Proofs.Ytkfmmdiflbnhgaa
set_option maxRecDepth 100000
open Go.RowKit
open Knot (Turns NewRow)
open Ta (IsBytes Stay sec nul ptr IsT Tray Made Grow)
namespace Sp
/-- A remainder, in a region that draws its order. -/
theorem rem_at {P : Program} {a : Go.Act} {o : Oper} {w : World} {x y : Operand} {t ty : TypeId} {A B R : Int} (ho : o.op = .binOp .rem t x y ty) (hx : a.eval x = .int .i64 A) (hy : a.eval y = .int .i64 B) (hB : B ≠ 0) (hR : A.tmod B = R) :
    (execOp a.eval o).run P w = .ok (.value (.int .i64 R)) w := by
  unfold execOp
  simp [ho, hx, hy, eqGuard, binOp, Op.intDiv, hB, hR]
/-- No block was lost. -/
def Later (x y : World) : Prop := x.heap.size ≤ y.heap.size
theorem Later.refl (x : World) : Later x x := Nat.le_refl _
theorem Later.trans {x y z : World} (h : Later x y) (k : Later y z) : Later x z := Nat.le_trans h k
theorem wrote_cached (s : S) (b : List UInt8) (o : Nat) (t : Tray (List UInt8)) (h : t.left = -1) : (wrote s b o t).1.cache = [] := by
  obtain ⟨h1, h2⟩ := wr_free s b o o 0 t h
  unfold wrote
  simp only [h1, if_true]
  rw [if_neg (by omega)]
  unfold Tray.flush
  rw [if_neg (by omega)]
section
variable {w x y : World} {p q n : Nat} {t : Tray (List UInt8)} {s : S} {F : Nat → Prop}
theorem Sys.cut (h : Sys w x p q n t s F) : Calls Try.prog 25 #[ptr q] x fun e y => e = .returned (.tuple #[]) ∧ Sys w y p q n t { s with head := s.tail } F ∧ Turns (fun k => k = q) x y := by
  refine (cut_any h.spool).mono ?_
  rintro e y ⟨rfl, ht, hq⟩
  refine ⟨rfl, ⟨h.below.trans (ht.below h.below.size fun k hk => by rw [hk]; exact h.newq), h.tray.turn ht fun k hk e => h.off (e ▸ hk), hq, ⟨h.fits.count, h.fits.first, Nat.le_refl _, h.fits.tail, h.fits.epoch⟩, h.room, h.off, h.new, h.newq⟩, ht⟩
theorem Sys.room_ (h : Sys w x p q n t s F) : Calls Try.prog 32 #[ptr q] x fun e y => e = .returned (.int .i64 ((s.count : Int) - ((s.tail : Int) - (s.head : Int)))) ∧ Below x.heap.size x y ∧ Sys w y p q n t s F := by
  refine (room_any h.spool h.fits).mono ?_
  rintro e y ⟨rfl, hb⟩
  exact ⟨rfl, hb, h.on hb⟩
theorem Sys.pow (h : Sys w x p q n t s F) (z : Int) : Calls Try.prog 26 #[ptr p, .int .i64 z] x fun e y => e = .returned (.int .i64 (if 0 ≤ z ∧ z ≤ 1099511627776 then 0 else 1)) ∧ Sys w y p q n (if 0 ≤ z ∧ z ≤ 1099511627776 then t.power z else t) s F ∧ Turns (fun k => k = p) x y := by
  refine (Ta.power_any z h.tray).mono ?_
  rintro e y ⟨rfl, ht, hi⟩
  refine ⟨rfl, ⟨h.below.trans (ht.below h.below.size fun k hk => by rw [hk]; exact h.new p h.tray.fp), hi, h.spool.turn ht fun e => h.off (e ▸ h.tray.fp), h.fits, h.room, h.off, h.new, h.newq⟩, ht⟩
end
end Sp
end Go.Proofs.Ytkfmmdiflbnhgaa

namespace Go.Proofs.Ytkfmmdiflbnhgaa
set_option maxRecDepth 100000
open Go.RowKit
open Knot (Turns NewRow)
open Ta (IsBytes Stay sec nul ptr IsT Tray)
open Tr (own_turn own_below own_slice IsElem append_rows addp)
namespace Sp
/-- A list of records, as it is read. -/
def IsRecs (w : World) (v : Value) (L : List (List UInt8)) : Prop :=
  ∃ ao cap, v = .slice ao L.length cap ∧ L.length ≤ cap ∧ cap ≤ maxLen ∧ (L ≠ [] → ∃ g o, ao = some ⟨g, o, none⟩ ∧ ∀ (i : Nat) (h : i < L.length), ∃ u, w.cell? ⟨g, o + i, none⟩ = some u ∧ IsBytes w u L[i])
section
variable {w x : World} {v : Value} {L : List (List UInt8)}
theorem IsRecs.below (h : IsRecs w v L) (hb : Below w.heap.size w x) : IsRecs x v L := by
  obtain ⟨ao, cap, hv, h1, h2, h3⟩ := h
  refine ⟨ao, cap, hv, h1, h2, fun hn => ?_⟩
  obtain ⟨g, o, e, hc⟩ := h3 hn
  refine ⟨g, o, e, fun i hi => ?_⟩
  obtain ⟨u, hu, hs⟩ := hc i hi
  exact ⟨u, (hb.cell (World.block_lt_of_cell? w _ hu)).trans hu, Ta.IsBytes.below hs hb⟩
theorem Recs.is {B : Nat} {G : Nat → Prop} (h : Recs B G w v L) : IsRecs w v L := by
  obtain ⟨vs, h1, h2⟩ := h
  rcases h1.2 with ⟨rfl, h0⟩ | ⟨g, cap, cur, rfl, hb, hg, hn, hc, hs, ht⟩
  · obtain rfl : L = [] := List.eq_nil_of_length_eq_zero h0
    exact ⟨none, 0, rfl, Nat.le_refl _, Nat.zero_le _, fun h => absurd rfl h⟩
  · refine ⟨_, cap, rfl, hn, hc, fun _ => ⟨g, 0, rfl, fun i hi => ?_⟩⟩
    obtain ⟨u, hu, hst⟩ := h2 i hi
    have hr : w.ownsRow B tBs 1 (.slice (some ⟨g, 0, none⟩) L.length cap) L.length vs := h1
    have h3 := hr.cellAt i (by omega)
    refine ⟨u, ?_, hst.now⟩
    rw [Nat.zero_add, h3]
    exact hu
theorem IsRecs.slice (h : IsRecs w v L) : ∃ ao cap, v = .slice ao L.length cap := by
  obtain ⟨ao, cap, rfl, -⟩ := h
  exact ⟨_, _, rfl⟩
/-- A record of a list. -/
theorem rec_at (h : IsRecs w v L) {i : Nat} (hi : i < L.length) : ∃ g q u, (∀ W, (Instr.indexAt tBss v (.int .i64 (i : Int))).run Try.prog W = .ok (.pointer (some ⟨g, q, none⟩)) W) ∧ w.cell? ⟨g, q, none⟩ = some u ∧ IsBytes w u L[i] := by
  obtain ⟨ao, cap, rfl, h1, h2, h3⟩ := h
  obtain ⟨g, o, rfl, hc⟩ := h3 (fun e => by rw [e] at hi; simp at hi)
  obtain ⟨u, hu, hs⟩ := hc i hi
  refine ⟨g, o + i, u, fun W => ?_, hu, hs⟩
  have hz : ∀ w, (sizeOf (Try.prog.elem tBss)).run Try.prog w = .ok 1 w := fun w => by kernel_rfl
  have : L.length ≤ 9223372036854775807 := Nat.le_trans h1 (Nat.le_trans h2 (by decide))
  rw [run_indexAt_slice W _ _ _ _ _ _ Try.underlying42, if_pos ⟨by omega, by omega⟩, hz]
  have e : ((i : Int)).toNat = i := by omega
  simp only [Result.andThen_ok, e, Addr.add_lit, Nat.mul_one]
end
/-- Bytes as a text. -/
theorem bytes_str {w : World} {u : Value} {b : List UInt8} (h : IsBytes w u b) : (convert 22 9 u).run Try.prog w = .ok (.string (Ta.str b)) w := by
  obtain ⟨ao, cap, rfl, h1, h2, h3⟩ := h
  by_cases hb : b.length = 0
  · obtain rfl : b = [] := List.eq_nil_of_length_eq_zero hb
    cases ao with
    | none => kernel_rfl
    | some a => exact run_convert_bytes_back (P := Try.prog) w 22 9 5 a cap [] Try.underlying22 Try.underlying5 Try.underlying9 (fun j hj => by simp at hj)
  · obtain ⟨g, o, rfl, hc⟩ := h3 hb
    exact run_convert_bytes_back (P := Try.prog) w 22 9 5 ⟨g, o, none⟩ cap b Try.underlying22 Try.underlying5 Try.underlying9 (fun j hj => by
      rw [addp]
      exact hc j _ (by simp [Lib.byteCells, hj]))
theorem str_inj {a b : List UInt8} : ((Ta.str a).toList == (Ta.str b).toList) = decide (a = b) := by
  have e : ∀ l : List UInt8, (Ta.str l).toList = l := fun l => by
    rw [ByteArray.toList_eq]
    simp [Ta.str]
  rw [e, e, Bool.eq_iff_iff]
  simp
section
variable {w : World}
set_option maxHeartbeats 8000000 in
set_option maxRecDepth 100000 in
theorem same_any (v1 v2 : Value) (L M : List (List UInt8)) (h1 : IsRecs w v1 L) (h2 : IsRecs w v2 M) : Calls Try.prog 22 #[v1, v2] w fun e x => e = .returned (.bool (decide (L = M))) ∧ Below w.heap.size w x := by
  have H := Lib.hid (And.intro h1 h2)
  obtain ⟨a1, c1, rfl, g1, g2, -⟩ := h1
  obtain ⟨a2, c2, rfl, -, -, -⟩ := h2
  have hbig : L.length ≤ 9223372036854775807 := by unfold maxLen at g2; omega
  clear g1 g2
  by_cases hl : L.length = M.length
  · have e1 : ((L.length : Int) != (M.length : Int)) = false := by simp [hl]
    have HLe := Lib.hid hl
    clear hl
    go_enter Try.func22, Try.ntmps22
    go_wp2_with fail
    go_loopw [13] (fun i x => ∃ j : Nat, j ≤ L.length ∧ i = .int .i64 (j : Int) ∧ Hid (Below w.heap.size w x ∧ L.take j = M.take j)) (fun i _ => L.length - (intOf i).toNat)
    case atStart => exact ⟨0, by omega, rfl, Below.refl _ _, rfl⟩
    case round =>
      obtain ⟨j, hj, rfl, HX⟩ := hrel
      by_cases hlt : j < L.length
      · have hlm : j < M.length := by have := HLe.out; omega
        obtain ⟨g, q, u, hix, hu, hbu⟩ := rec_at (H.out.1.below HX.out.1) hlt
        obtain ⟨g', q', u', hix', hu', hbu'⟩ := rec_at (H.out.2.below HX.out.1) hlm
        have hcv := fun m => bytes_str (Ta.IsBytes.below hbu (below_drewN (Below.refl wr.heap.size wr) m))
        have hcv' := fun m => bytes_str (Ta.IsBytes.below hbu' (below_drewN (Below.refl wr.heap.size wr) m))
        have hnx : L.take (j + 1) = M.take (j + 1) ↔ L[j] = M[j] := by
          rw [List.take_succ_eq_append_getElem hlt, List.take_succ_eq_append_getElem hlm, HX.out.2]
          constructor
          · intro h
            exact List.head_eq_of_cons_eq (List.append_cancel_left h)
          · intro h
            rw [h]
        have hne : (((Ta.str L[j]).toList != (Ta.str M[j]).toList)) = !decide (L[j] = M[j]) := by rw [bne, str_inj]
        have hix2 : (0 : Int) ≤ (j : Int) := by omega
        have HN := Lib.hid (And.intro hnx hne)
        by_cases hsame : L[j] = M[j]
        · have hq : ((Ta.str L[j]).toList != (Ta.str M[j]).toList) = false := by rw [hne]; simp [hsame]
          have hq2 : ((Ta.str L[j]).toList == (Ta.str M[j]).toList) = true := by rw [str_inj]; simp [hsame]
          have HSm := Lib.hid hsame
          clear hnx hne hsame
          generalize Ta.str L[j] = A at *
          generalize Ta.str M[j] = B at *
          go_wp2_with fail
          go_quiet (fail)
          go_wp2_with fail
          go_roundw
          case rel => exact ⟨j + 1, by omega, by go_num, ⟨below_drewN HX.out.1 _, HN.out.1.2 HSm.out⟩⟩
          case measure => simp [intOf]; omega
        · have hq : ((Ta.str L[j]).toList != (Ta.str M[j]).toList) = true := by rw [hne]; simp [hsame]
          have hq2 : ((Ta.str L[j]).toList == (Ta.str M[j]).toList) = false := by rw [str_inj]; simp [hsame]
          have HF := Lib.hid (show decide (L = M) = false from decide_eq_false fun h => hsame (by subst h; rfl))
          clear hnx hne hsame
          generalize Ta.str L[j] = A at *
          generalize Ta.str M[j] = B at *
          go_wp2_with fail
          go_quiet (fail)
          go_wp2_with fail
          go_ret
          exact ⟨by rw [HF.out]; rfl, below_drewN HX.out.1 _⟩
      · have hjl : j = L.length := by omega
        have HE := Lib.hid (show decide (L = M) = true from decide_eq_true (by
          have h := HX.out.2
          rwa [hjl, List.take_length, HLe.out, List.take_length] at h))
        have hnl : ¬ (j : Int) < (L.length : Int) := by omega
        clear hlt hjl
        go_wp2_with fail
        go_ret
        exact ⟨by rw [HE.out]; rfl, HX.out.1⟩
  · have e1 : ((L.length : Int) != (M.length : Int)) = true := by simp; omega
    have HF := Lib.hid (show decide (L = M) = false from decide_eq_false fun h => hl (by rw [h]))
    clear hl
    go_enter Try.func22, Try.ntmps22
    go_wp2_with fail
    go_ret
    exact ⟨by rw [HF.out]; rfl, Below.refl _ _⟩
end
end Sp
end Go.Proofs.Ytkfmmdiflbnhgaa
