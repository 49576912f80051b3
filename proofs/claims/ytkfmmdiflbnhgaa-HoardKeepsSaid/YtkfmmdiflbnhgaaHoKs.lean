/-
  Layer 14: HoardKeeps' states: a hoard that lives, and one of which a step was refused.
-/
import Derived.Test.YtkfmmdiflbnhgaaHoMore
import Derived.Test.YtkfmmdiflbnhgaaHoAg
namespace Go.Proofs.Ytkfmmdiflbnhgaa
set_option maxRecDepth 100000
open Go.RowKit
open Knot (Turns)
open Ta (IsBytes IsFlags Stay sec nul ptr IsT C5 Tray Made)
open Sp (S SpB found Recs IsRecs Live rdS parts append)
namespace Ho
section
variable {n a b' : Nat} {b : List UInt8} {t : Tray (List UInt8)} {ms : List Nat} {H : Hd}
theorem fwr_cache {a : Nat} {b : List UInt8} : ∀ (f k : Nat) (t : Tray (List UInt8)), (fwr a b f k t).1.cache.length ≤ t.cache.length + f
  | 0, _, _ => Nat.le_refl _
  | f + 1, k, t => by
    rw [fwr]
    by_cases h : t.left = 0
    · rw [if_pos h]
      show t.cache.length ≤ _
      omega
    · rw [if_neg h]
      have h1 := fwr_cache (a := a) (b := b) f (k + 1) (t.put ((a + k : Nat) : Int) (Ta.pad (chk b k)))
      rw [(put_goes h _ _).1, List.length_append] at h1
      simp only [List.length_singleton] at h1
      omega
theorem flush_cache (t : Tray (List UInt8)) : t.flush.cache.length ≤ t.cache.length := by
  unfold Tray.flush
  split
  · exact Nat.le_refl _
  · exact Nat.zero_le _
theorem setT_cache : (setT t ms).1.cache.length ≤ t.cache.length + 1 := by
  unfold setT
  split
  · show t.cache.length ≤ _
    omega
  · rename_i h
    have h1 := flush_cache (t.put ((ms.getD 0 0 % 2 : Nat) : Int) (mkS ms))
    rw [(put_goes h _ _).1, List.length_append] at h1
    split <;> exact h1
theorem fieldT_cache : (fieldT a b t).1.cache.length ≤ t.cache.length + takes b := by
  have h1 := fwr_cache (a := a) (b := b) (takes b) 0 t
  unfold fieldT
  split
  · exact Nat.le_trans (flush_cache _) h1
  · exact h1
theorem keepT_cache : (keepT a b ms t).1.cache.length ≤ t.cache.length + takes b + 1 := by
  have h1 := fieldT_cache (a := a) (b := b) (t := t)
  unfold keepT
  split
  · exact Nat.le_trans setT_cache (by omega)
  · omega
theorem himage_cache : (himage n H b).1.t.cache.length ≤ H.t.cache.length + takes b + 1 := by
  have h1 := keepT_cache (a := 2 + (1 - H.m.getD 2 0) * qu n) (b := b) (ms := nextM H b.length) (t := H.t)
  unfold himage
  split
  · show H.t.cache.length ≤ _; omega
  · split
    · show H.t.cache.length ≤ _; omega
    · split <;> exact h1
theorem hkeep_cache : (hkeep H b).1.t.cache.length ≤ H.t.cache.length + parts b.length := by
  unfold hkeep
  split
  · show H.t.cache.length ≤ _; omega
  · exact Sp.append_cache _ _ _
theorem Firm.power {a f : Nat} {img : List UInt8} {r : List (List UInt8 × Nat)} (h : Firm n H a f img r) (z : Int) : Firm n { H with t := H.t.power z } a f img r :=
  ⟨h.live.power z, h.marks.same fun _ _ => rfl, h.ms, h.alive, h.ring⟩
end
section
variable {w x y : World} {p q h n j : Nat} {F : Nat → Prop} {u : Tray (List UInt8)} {H : Hd}
theorem lose_len (h : IsT x p n u F) (ch : List Bool) (z : Int) : ((u.lose ch).read nul z).length = 128 := by
  rw [Ta.Tray.read_lose]
  exact Ta.last_all (P := fun l : List UInt8 => l.length = 128) (fun w hw => (h.lenc w (Ta.pick_mem hw)).1) z (Ta.last_all (P := fun l : List UInt8 => l.length = 128) h.lenk z rfl)
theorem Hs.pow (hs : Hs w x h p q n H F) (z : Int) (hz : 0 ≤ z ∧ z ≤ 1099511627776) : Calls Try.prog 26 #[ptr p, .int .i64 z] x fun e y => e = .returned (.int .i64 0) ∧ Hs w y h p q n { H with t := H.t.power z } F ∧ Turns (fun k => F k ∨ k = q ∨ k = h) x y := by
  refine (hs.sys.pow z).mono ?_
  rintro e y ⟨rfl, h2, h3⟩
  rw [if_pos hz] at h2 ⊢
  exact ⟨rfl, ⟨h2, hs.box.turn h3 fun e => hs.off.1 (e ▸ hs.sys.tray.fp), hs.off, hs.n64, hs.fld, hs.small⟩, h3.mono fun k _ e => .inl (by rw [e]; exact hs.sys.tray.fp)⟩
/-- Behind every loss it may be opened, and has the first image and records, or, if a step was refused, the second. -/
def Due (u : Tray (List UInt8)) (d : Bool) (i1 : List UInt8) (L1 : List (List UInt8)) (i2 : List UInt8) (L2 : List (List UInt8)) (j : Nat) : Prop :=
  ∀ ch, ∃ (a e f hd tail : Nat) (img : List UInt8) (r : List (List UInt8 × Nat)), a ≤ j + 1 ∧ e ≤ j + 1 ∧ tail ≤ 1000 * j ∧ r.length ≤ j ∧ Ready 80 (u.lose ch) a e f hd tail img r ∧
    ((img = i1 ∧ r.map Prod.fst = L1) ∨ (d = true ∧ img = i2 ∧ r.map Prod.fst = L2))
theorem Due.more {d : Bool} {i1 i2 : List UInt8} {L1 L2 : List (List UInt8)} (h : Due u d i1 L1 i2 L2 j) : Due u d i1 L1 i2 L2 (j + 1) := fun ch => by
  obtain ⟨a, e, f, hd, tail, img, r, h1, h2, h3, h4, h5⟩ := h ch
  exact ⟨a, e, f, hd, tail, img, r, by omega, by omega, by omega, by omega, h5⟩
theorem recs_less {B : Nat} {G G' : Nat → Prop} {v : Value} {L : List (List UInt8)} (h : Recs B G x v L) (hG : ∀ k, G' k → G k) : Recs B G' x v L := by
  obtain ⟨vs, h1, h2⟩ := h
  refine ⟨vs, h1, fun i hi => ?_⟩
  obtain ⟨u, hu, hs⟩ := h2 i hi
  exact ⟨u, hu, hs.grow (Turns.refl _ _) fun k _ h => h.imp (hG k) id⟩
/-- It lives. -/
structure KA (w x : World) (p h q j : Nat) (H : Hd) (F : Nat → Prop) (vu : Value) (a f : Nat) (img : List UInt8) (r : List (List UInt8 × Nat)) : Prop where
  hk : Hk w x h p q H F vu (r.map Prod.fst)
  fm : Firm 80 H a f img r
  na : a ≤ j + 1
  ne : H.s.epoch ≤ j + 1
  nt : H.s.tail ≤ 1000 * j
  nr : r.length ≤ j
/-- Its tray, whether it lives or not. -/
structure KQ (w x : World) (p j : Nat) (u : Tray (List UInt8)) (F : Nat → Prop) (d : Bool) (vu vb : Value) (i1 : List UInt8) (L1 : List (List UInt8)) (i2 : List UInt8) (L2 : List (List UInt8)) : Prop where
  bl : Below w.heap.size w x
  is : IsT x p 80 u F
  new : ∀ k, F k → w.heap.size ≤ k
  few : u.cache.length ≤ 1000
  r1 : IsRecs x vu L1
  r2 : d = true → IsRecs x vb L2
  due : Due u d i1 L1 i2 L2 j
variable {vu vb : Value} {a f : Nat} {img i1 i2 : List UInt8} {r : List (List UInt8 × Nat)} {L1 L2 : List (List UInt8)} {d : Bool}
theorem KA.on (k : KA w x p h q j H F vu a f img r) (hb : Below x.heap.size x y) : KA w y p h q j H F vu a f img r := ⟨k.hk.on hb, k.fm, k.na, k.ne, k.nt, k.nr⟩
theorem KA.more (k : KA w x p h q j H F vu a f img r) : KA w x p h q (j + 1) H F vu a f img r := ⟨k.hk, k.fm, by have := k.na; omega, by have := k.ne; omega, by have := k.nt; omega, by have := k.nr; omega⟩
theorem KQ.on (k : KQ w x p j u F d vu vb i1 L1 i2 L2) (hb : Below x.heap.size x y) : KQ w y p j u F d vu vb i1 L1 i2 L2 := ⟨k.bl.trans (hb.mono k.bl.size), k.is.below hb, k.new, k.few, k.r1.below hb, fun e => (k.r2 e).below hb, k.due⟩
theorem KQ.more (k : KQ w x p j u F d vu vb i1 L1 i2 L2) : KQ w x p (j + 1) u F d vu vb i1 L1 i2 L2 := ⟨k.bl, k.is, k.new, k.few, k.r1, k.r2, k.due.more⟩
theorem KA.all (k : KA w x p h q j H F vu a f img r) (hj : j ≤ 30) : KQ w x p j H.t F false vu vb img (r.map Prod.fst) img [] :=
  ⟨k.hk.hs.sys.below, k.hk.hs.sys.tray, k.hk.hs.sys.new, by rw [k.fm.live.cache]; exact Nat.zero_le _, k.hk.rows.is, fun e => absurd e (by decide), fun ch => ⟨a, H.s.epoch, f, H.s.head, H.s.tail, img, r, k.na, k.ne, k.nt, k.nr, k.fm.ready (by have := k.ne; omega) ch, .inl ⟨rfl, rfl⟩⟩⟩
/-- What stands in the slots. -/
def Kst (w x : World) (p j : Nat) (vh vs vu vo vb vd : Value) : Prop :=
  (∃ h q H F a f img r, vh = ptr h ∧ vs = .string (Ta.str img) ∧ vo = .string (Ta.str img) ∧ vd = .bool false ∧ KA w x p h q j H F vu a f img r) ∨
  (∃ u F i1 L1 i2 L2, vs = .string (Ta.str i1) ∧ vo = .string (Ta.str i2) ∧ vd = .bool true ∧ KQ w x p j u F true vu vb i1 L1 i2 L2)
theorem Kst.below {vh vs vo vd : Value} (k : Kst w x p j vh vs vu vo vb vd) : Below w.heap.size w x := by
  rcases k with ⟨h, q, H, F, a, f, img, r, -, -, -, -, k⟩ | ⟨u, F, i1, L1, i2, L2, -, -, -, k⟩
  · exact k.hk.hs.sys.below
  · exact k.bl
theorem Kst.on {vh vs vo vd : Value} (k : Kst w x p j vh vs vu vo vb vd) (hb : Below x.heap.size x y) : Kst w y p j vh vs vu vo vb vd := by
  rcases k with ⟨h, q, H, F, a, f, img, r, e1, e2, e3, e4, k⟩ | ⟨u, F, i1, L1, i2, L2, e1, e2, e3, k⟩
  · exact .inl ⟨h, q, H, F, a, f, img, r, e1, e2, e3, e4, k.on hb⟩
  · exact .inr ⟨u, F, i1, L1, i2, L2, e1, e2, e3, k.on hb⟩
theorem Kst.more {vh vs vo vd : Value} (k : Kst w x p j vh vs vu vo vb vd) : Kst w x p (j + 1) vh vs vu vo vb vd := by
  rcases k with ⟨h, q, H, F, a, f, img, r, e1, e2, e3, e4, k⟩ | ⟨u, F, i1, L1, i2, L2, e1, e2, e3, k⟩
  · exact .inl ⟨h, q, H, F, a, f, img, r, e1, e2, e3, e4, k.more⟩
  · exact .inr ⟨u, F, i1, L1, i2, L2, e1, e2, e3, k.more⟩
theorem Kst.all {vh vs vo vd : Value} (k : Kst w x p j vh vs vu vo vb vd) (hj : j ≤ 30) : ∃ u F d i1 L1 i2 L2, vs = .string (Ta.str i1) ∧ vo = .string (Ta.str i2) ∧ vd = .bool d ∧ KQ w x p j u F d vu vb i1 L1 i2 L2 := by
  rcases k with ⟨h, q, H, F, a, f, img, r, e1, e2, e3, e4, k⟩ | ⟨u, F, i1, L1, i2, L2, e1, e2, e3, k⟩
  · exact ⟨H.t, F, false, img, r.map Prod.fst, img, [], e2, e3, e4, k.all hj⟩
  · exact ⟨u, F, true, i1, L1, i2, L2, e1, e2, e3, k⟩
/-- .. where a block of the caller's was made: none of its own. -/
def KstA (w x : World) (A p j : Nat) (vh vs vu vo vb vd : Value) : Prop :=
  (∃ h q H F a f img r, vh = ptr h ∧ vs = .string (Ta.str img) ∧ vo = .string (Ta.str img) ∧ vd = .bool false ∧ KA w x p h q j H F vu a f img r ∧ ∀ k, F k ∨ k = q ∨ k = h → k < A) ∨
  (∃ u F i1 L1 i2 L2, vs = .string (Ta.str i1) ∧ vo = .string (Ta.str i2) ∧ vd = .bool true ∧ KQ w x p j u F true vu vb i1 L1 i2 L2)
theorem Kst.next {vh vs vo vd : Value} (k : Kst w x p j vh vs vu vo vb vd) (hb : Below x.heap.size x y) : KstA w y x.heap.size p j vh vs vu vo vb vd := by
  rcases k with ⟨h, q, H, F, a, f, img, r, e1, e2, e3, e4, k⟩ | ⟨u, F, i1, L1, i2, L2, e1, e2, e3, k⟩
  · exact .inl ⟨h, q, H, F, a, f, img, r, e1, e2, e3, e4, k.on hb, k.hk.lt⟩
  · exact .inr ⟨u, F, i1, L1, i2, L2, e1, e2, e3, k.on hb⟩
theorem KstA.kst {A : Nat} {vh vs vo vd : Value} (k : KstA w x A p j vh vs vu vo vb vd) : Kst w x p j vh vs vu vo vb vd := by
  rcases k with ⟨h, q, H, F, a, f, img, r, e1, e2, e3, e4, k, -⟩ | ⟨u, F, i1, L1, i2, L2, e1, e2, e3, k⟩
  · exact .inl ⟨h, q, H, F, a, f, img, r, e1, e2, e3, e4, k⟩
  · exact .inr ⟨u, F, i1, L1, i2, L2, e1, e2, e3, k⟩
end
end Ho
end Go.Proofs.Ytkfmmdiflbnhgaa
