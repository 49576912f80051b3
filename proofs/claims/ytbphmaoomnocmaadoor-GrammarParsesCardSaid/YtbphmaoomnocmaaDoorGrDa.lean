/-
  Layer 7's document: atom. Written by gen/mk_da.py and ord.py.
-/
import Derived.Test.YtbphmaoomnocmaaDoorGrDt
import Derived.Test.YtbphmaoomnocmaaDoorGrAllow
namespace Go.Proofs.YtbphmaoomnocmaaDoor
open Go.RowKit
namespace Gr
open Knot (Turns NewRow)
open Tr (Nd none0 node4 own_slice Box4)
open Sg (Tok kt TokAt txt)

/-- What a part of the document answers. -/
def DOut {α : Type} (E : Elt α) (c : DCtx) (o : Nat) (r : α × St) (x : World) (e : Ending) (y : World) : Prop :=
  ∃ v, e = .returned (.tuple #[stV c o r.2, v]) ∧ E.is (fun g => x.heap.size ≤ g) y r.1 v ∧ Below x.heap.size x y
abbrev DPart {α : Type} (E : Elt α) (c : DCtx) (o : Nat) (f : FuncId) (p : St → α × St) : Prop :=
  ∀ s x, DEnv c x → s.rest <:+ kt c.L → Calls Tryd.prog f #[stV c o s] x (DOut E c o (p s) x)
/-- What atom, less, meet, union stand on: the state's box, the two results' boxes. -/
structure Da (c : DCtx) (x : World) (a o er : Nat) (w : World) : Prop where
  box : DB x.heap.size c a o er w
  res : Rs (x.heap.size + 1) w
  nod : Box4 (x.heap.size + 1 + 1) 0 ⟨#[]⟩ ⟨#[]⟩ (.slice none 0 0) w
  below : Below x.heap.size x w
section
variable {c : DCtx} {x : World} {a o er : Nat} {w y : World}
theorem Da.lt (h : Da c x a o er w) : x.heap.size + 3 ≤ w.heap.size := h.nod.lt
theorem Da.turn {F : Nat → Prop} (h : Da c x a o er w) (ht : Turns F w y) (hF : ∀ g, F g → x.heap.size + 3 ≤ g) : Da c x a o er y :=
  ⟨ht.heap h.box fun e => by have := hF _ e; omega, ht.heap h.res fun e => by have := hF _ e; omega, ht.heap h.nod fun e => by have := hF _ e; omega, h.below.trans (ht.below h.below.size fun k hk => by have := hF k hk; omega)⟩
theorem Da.on (h : Da c x a o er w) (hb : Below w.heap.size w y) : Da c x a o er y := h.turn (Turns.of_below (F := fun _ => False) hb) fun _ h => h.elim
theorem Da.drew (h : Da c x a o er w) : Da c x a o er w.drew := h.on (Below.refl _ _).drew
theorem Da.put1 (h : Da c x a o er w) (a' : Nat) : Da c x a' o er (w.setCell ⟨x.heap.size, 1, none⟩ (.int .i64 (a' : Nat))) :=
  ⟨h.box.put1 a', (Below.heap_setCell _ _ _ _ (by simp)).trans h.res, (Below.heap_setCell _ _ _ _ (by simp only; omega)).trans h.nod, h.below.setCell (p := ⟨x.heap.size, 1, none⟩) (Nat.le_refl _) _⟩
theorem Da.put2 (h : Da c x a o er w) (o' : Nat) : Da c x a o' er (w.setCell ⟨x.heap.size, 2, none⟩ (.int .i64 (o' : Nat))) :=
  ⟨h.box.put2 o', (Below.heap_setCell _ _ _ _ (by simp)).trans h.res, (Below.heap_setCell _ _ _ _ (by simp only; omega)).trans h.nod, h.below.setCell (p := ⟨x.heap.size, 2, none⟩) (Nat.le_refl _) _⟩
theorem Da.put3 (h : Da c x a o er w) (e' : Nat) : Da c x a o e' (w.setCell ⟨x.heap.size, 3, none⟩ (.int .i64 (e' : Nat))) :=
  ⟨h.box.put3 e', (Below.heap_setCell _ _ _ _ (by simp)).trans h.res, (Below.heap_setCell _ _ _ _ (by simp only; omega)).trans h.nod, h.below.setCell (p := ⟨x.heap.size, 3, none⟩) (Nat.le_refl _) _⟩
theorem setS_turn (x : World) (R : Nat) (c : DCtx) (a o er : Nat) : Turns (fun g => g = R) x (setS x R c a o er) := setS_own x R c a o er
theorem Da.setS (h : Da c x a o er w) (a' o' er' : Nat) : Da c x a' o' er' (setS w x.heap.size c a' o' er') := by
  have ht := setS_own w x.heap.size c a' o' er'
  exact ⟨DB.set h.box c a' o' er', ht.heap h.res (by omega), ht.heap h.nod (by omega), setS_below h.below (Nat.le_refl _) c a' o' er'⟩
/-- How state and node are handed back. -/
theorem Da.fin (h : Da c x a o er w) {n : Nd} {v : Value} (hn : NodeS (fun g => x.heap.size + 3 ≤ g) w n v) (a' o' er' : Nat) (k : Int) (p q : ByteArray) (s : Value) :
    (Gr.setS w (x.heap.size + 1) c a' o' er').heap[x.heap.size + 1]? = some (.cells #[.slice c.ao c.L.length c.cap, .int .i64 (a' : Nat), .int .i64 (o' : Nat), .int .i64 (er' : Nat)] 64 (0, 0)) ∧
    (setN (Gr.setS w (x.heap.size + 1) c a' o' er') (x.heap.size + 1 + 1) k p q s).heap[x.heap.size + 1]? = some (.cells #[.slice c.ao c.L.length c.cap, .int .i64 (a' : Nat), .int .i64 (o' : Nat), .int .i64 (er' : Nat)] 64 (0, 0)) ∧
    Box4 (x.heap.size + 1 + 1) 0 ⟨#[]⟩ ⟨#[]⟩ (.slice none 0 0) (Gr.setS w (x.heap.size + 1) c a' o' er') ∧
    Box4 (x.heap.size + 1 + 1) k p q s (setN (Gr.setS w (x.heap.size + 1) c a' o' er') (x.heap.size + 1 + 1) k p q s) ∧
    NodeS (fun g => x.heap.size ≤ g) (setN (Gr.setS w (x.heap.size + 1) c a' o' er') (x.heap.size + 1 + 1) k p q s) n v ∧
    Below x.heap.size x (setN (Gr.setS w (x.heap.size + 1) c a' o' er') (x.heap.size + 1 + 1) k p q s) := by
  have t1 := setS_own w (x.heap.size + 1) c a' o' er'
  have t2 := setN_own (Gr.setS w (x.heap.size + 1) c a' o' er') (x.heap.size + 1 + 1) k p q s
  have hr := DB.set h.res c a' o' er'
  have hn2 : Box4 (x.heap.size + 1 + 1) 0 ⟨#[]⟩ ⟨#[]⟩ (.slice none 0 0) (Gr.setS w (x.heap.size + 1) c a' o' er') := t1.heap h.nod (by omega)
  refine ⟨hr, t2.heap hr (by omega), hn2, Box4.set hn2, ?_, ?_⟩
  · exact (hn.turn t1 (fun g hg _ e => by omega) fun g hg _ => hg).turn t2 (fun g hg _ e => by omega) fun g hg _ => by omega
  · have b1 := setS_below h.below (R := x.heap.size + 1) (by omega) c a' o' er'
    exact b1.trans (t2.below b1.size fun k hk => by omega)
end
theorem Da.start (c : DCtx) (x : World) (a o er : Nat) : Da c x a o er (((x.alloc (.cells #[.slice c.ao c.L.length c.cap, .int .i64 (a : Nat), .int .i64 (o : Nat), .int .i64 (er : Nat)] 64)).alloc (.cells #[.slice none 0 0, .int .i64 0, .int .i64 0, .int .i64 0] 64)).alloc (.cells #[.int .i64 0, .string ⟨#[]⟩, .string ⟨#[]⟩, .slice none 0 0] 25)) := by
  have b1 : Below x.heap.size x (x.alloc (.cells #[.slice c.ao c.L.length c.cap, .int .i64 (a : Nat), .int .i64 (o : Nat), .int .i64 (er : Nat)] 64)) := (Below.refl _ _).alloc (Nat.le_refl _) _
  have s1 : (x.alloc (.cells #[.slice c.ao c.L.length c.cap, .int .i64 (a : Nat), .int .i64 (o : Nat), .int .i64 (er : Nat)] 64)).heap.size = x.heap.size + 1 := by simp
  have n1 := DB.new x c a o er
  generalize x.alloc (.cells #[.slice c.ao c.L.length c.cap, .int .i64 (a : Nat), .int .i64 (o : Nat), .int .i64 (er : Nat)] 64) = x1 at *
  have b2 : Below x1.heap.size x1 (x1.alloc (.cells #[.slice none 0 0, .int .i64 0, .int .i64 0, .int .i64 0] 64)) := (Below.refl _ _).alloc (Nat.le_refl _) _
  have n2 : Rs x1.heap.size (x1.alloc (.cells #[.slice none 0 0, .int .i64 0, .int .i64 0, .int .i64 0] 64)) := heap_alloc_new x1 _
  have s2 : (x1.alloc (.cells #[.slice none 0 0, .int .i64 0, .int .i64 0, .int .i64 0] 64)).heap.size = x1.heap.size + 1 := by simp
  generalize x1.alloc (.cells #[.slice none 0 0, .int .i64 0, .int .i64 0, .int .i64 0] 64) = x2 at *
  have b3 : Below x2.heap.size x2 (x2.alloc (.cells #[.int .i64 0, .string ⟨#[]⟩, .string ⟨#[]⟩, .slice none 0 0] 25)) := (Below.refl _ _).alloc (Nat.le_refl _) _
  have n3 := Box4.new x2 0 ⟨#[]⟩ ⟨#[]⟩ (.slice none 0 0)
  rw [s2, s1] at n3
  rw [s1] at n2
  exact ⟨(b3.block _ (by omega)).trans ((b2.block _ (by omega)).trans n1), (b3.block _ (by omega)).trans n2, n3, (b1.trans (b2.mono (by omega))).trans (b3.mono (by omega))⟩
theorem stV_tl {c : DCtx} {o : Nat} {s : St} (h : s.rest <:+ kt c.L) (hn : next s ≠ 0) : stV c o (tl s) = .agg #[.slice c.ao c.L.length c.cap, .int .i64 ((atN c s + 1 : Nat) : Int), .int .i64 (o : Nat), .int .i64 (s.err : Nat)] := stV_eq (at_tl h hn) rfl
/-- A node's box beside. -/
theorem nfree {R : Nat} {k : Int} {a b : ByteArray} {s : Value} {x : World} (h : Box4 R k a b s x) : x.frozen? ⟨R, 0, none⟩ = false ∧ x.frozen? ⟨R, 1, none⟩ = false ∧ x.frozen? ⟨R, 2, none⟩ = false ∧ x.frozen? ⟨R, 3, none⟩ = false := ⟨Lib.frozen_of_heap h 0, Lib.frozen_of_heap h 1, Lib.frozen_of_heap h 2, Lib.frozen_of_heap h 3⟩
set_option maxHeartbeats 8000000 in
set_option maxRecDepth 100000 in
theorem datom_any {c : DCtx} {o : Nat} {br : P} (hbr : (8 ≤ o ∧ ∀ s, br s = (.mk 0 none0 none0 [], fail s 12)) ∨ (¬ 8 ≤ o ∧ ∃ u : P, Fine u ∧ (∀ s, br s = ((u (need s 40)).1, need (u (need s 40)).2 41)) ∧ DPart nodeE c (o + 1) 22 u)) {s : St} {x : World} (h : DEnv c x) (hs : s.rest <:+ kt c.L) :
    Calls Tryd.prog 93 #[stV c o s] x (DOut nodeE c o (atomOf br s) x) := by
  have hD := Da.start c x (atN c s) o s.err
  have b4 : Below (((x.alloc (.cells #[.slice c.ao c.L.length c.cap, .int .i64 (atN c s : Nat), .int .i64 (o : Nat), .int .i64 (s.err : Nat)] 64)).alloc (.cells #[.slice none 0 0, .int .i64 0, .int .i64 0, .int .i64 0] 64)).alloc (.cells #[.int .i64 0, .string ⟨#[]⟩, .string ⟨#[]⟩, .slice none 0 0] 25)).heap.size _ ((((x.alloc (.cells #[.slice c.ao c.L.length c.cap, .int .i64 (atN c s : Nat), .int .i64 (o : Nat), .int .i64 (s.err : Nat)] 64)).alloc (.cells #[.slice none 0 0, .int .i64 0, .int .i64 0, .int .i64 0] 64)).alloc (.cells #[.int .i64 0, .string ⟨#[]⟩, .string ⟨#[]⟩, .slice none 0 0] 25)).alloc (.cells #[.int .i64 0, .string ⟨#[]⟩, .string ⟨#[]⟩, .slice none 0 0] 25)) := (Below.refl _ _).alloc (Nat.le_refl _) _
  have HD0 := Lib.hid (hD.on b4)
  have hsz : (((x.alloc (.cells #[.slice c.ao c.L.length c.cap, .int .i64 (atN c s : Nat), .int .i64 (o : Nat), .int .i64 (s.err : Nat)] 64)).alloc (.cells #[.slice none 0 0, .int .i64 0, .int .i64 0, .int .i64 0] 64)).alloc (.cells #[.int .i64 0, .string ⟨#[]⟩, .string ⟨#[]⟩, .slice none 0 0] 25)).heap.size = x.heap.size + 1 + 1 + 1 := by simp
  have hB := Box4.new (((x.alloc (.cells #[.slice c.ao c.L.length c.cap, .int .i64 (atN c s : Nat), .int .i64 (o : Nat), .int .i64 (s.err : Nat)] 64)).alloc (.cells #[.slice none 0 0, .int .i64 0, .int .i64 0, .int .i64 0] 64)).alloc (.cells #[.int .i64 0, .string ⟨#[]⟩, .string ⟨#[]⟩, .slice none 0 0] 25)) 0 ⟨#[]⟩ ⟨#[]⟩ (.slice none 0 0)
  rw [hsz] at hB
  have HB0 := Lib.hid hB
  have HR := Lib.hid (Nat.le_refl 0)
  clear hsz hB
  obtain ⟨c0, c1, c2, c3⟩ := HD0.out.box.cells
  clear hD b4
  show Calls _ _ #[.agg #[.slice c.ao c.L.length c.cap, .int .i64 (atN c s : Nat), .int .i64 (o : Nat), .int .i64 (s.err : Nat)]] _ _
  go_enter Tryd.func93, Tryd.ntmps93
  go_wp2_with fail
  generalize (((x.alloc (.cells #[.slice c.ao c.L.length c.cap, .int .i64 (atN c s : Nat), .int .i64 (o : Nat), .int .i64 (s.err : Nat)] 64)).alloc (.cells #[.slice none 0 0, .int .i64 0, .int .i64 0, .int .i64 0] 64)).alloc (.cells #[.int .i64 0, .string ⟨#[]⟩, .string ⟨#[]⟩, .slice none 0 0] 25)).alloc (.cells #[.int .i64 0, .string ⟨#[]⟩, .string ⟨#[]⟩, .slice none 0 0] 25) = w1 at *
  have hK := dkind_any (o := o) (s := s) (h.below HD0.out.below) hs
  have HQ := Lib.hid (show atomOf br s = if next s = 4 then (.mk 1 none0 none0 [], tl s) else if next s = 40 then br s else if next (word s).2 = 5 then (.mk 3 (word s).1 (word (tl (word s).2)).1 [], (word (tl (word s).2)).2) else (.mk 2 (word s).1 none0 [], (word s).2) from rfl)
  generalize atomOf br s = res at *
  refine hK.mono ?_
  rintro e w2 ⟨rfl, hbw⟩
  have HD := Lib.hid (HD0.out.on hbw)
  have HB := Lib.hid (HB0.out.on hbw)
  clear hK hbw HD0 HB0 c0 c1 c2 c3
  obtain ⟨c0, c1, c2, c3⟩ := HD.out.box.cells
  have ej : ((atN c s + 1 : Nat) : Int) = (atN c s : Int) + 1 := by omega
  have hjl : atN c s ≤ 10000 := by have := h.len; unfold atN; omega
  have EJ := Lib.hid ej
  have EO := Lib.hid (show ((o + 1 : Nat) : Int) = (o : Int) + 1 by omega)
  have E12 := Lib.hid (show ((12 : Nat) : Int) = 12 from rfl)
  have hw : IntKind.wrap .i64 ((atN c s : Int) + 1) = (atN c s : Int) + 1 := by
    rw [IntKind.wrap_i64] <;> omega
  clear hjl ej
  by_cases h40 : next s = 40
  · have h4 : ¬ next s = 4 := by rw [h40]; decide
    have HQ := Lib.hid (HQ.out.trans ((if_neg h4).trans (if_pos h40)))
    have e40 : (next s == 40) = true := by simpa using h40
    have hne : need s 40 = tl s := if_pos h40
    have hgood := Lib.hid (next_good (s := s) (by rw [h40]; decide)).1
    obtain ⟨u0, u1, u2, u3⟩ := HD.out.box.free
    rcases hbr with ⟨ho, hbr⟩ | ⟨ho, u, hfu, hbr, hu⟩
    · have hput := HD.out.put3 12
      rw [E12.out] at hput
      have hBp : Box4 (x.heap.size + 1 + 1 + 1) 0 ⟨#[]⟩ ⟨#[]⟩ (.slice none 0 0) (w2.setCell ⟨x.heap.size, 3, none⟩ (.int .i64 12)) := (set_own w2 x.heap.size 3 (.int .i64 12)).heap HB.out (by omega)
      have hst : stV c o (fail s 12) = .agg #[.slice c.ao c.L.length c.cap, .int .i64 (atN c s : Nat), .int .i64 (o : Nat), .int .i64 12] := stV_eq (fail_at c s 12) (show (fail s 12).err = 12 by rw [fail, if_pos hgood.out])
      rw [hbr] at HQ
      clear hne h4 h40 hbr hw
      go_wp2_with fail
      clear c0 c1 c2 c3 u0 u1 u2 u3 e40 HD HB
      have HD := Lib.hid hput
      have HB := Lib.hid hBp
      have HN := Lib.hid (leaf (S := fun g => x.heap.size + 3 ≤ g) (x := w2.setCell ⟨x.heap.size, 3, none⟩ (.int .i64 12)) (k := 0) (a := ⟨#[]⟩) (b := ⟨#[]⟩) (by decide) (by decide))
      clear hput hBp
      have HD' := Lib.hid HD.out.drew
      have HB' := Lib.hid (HB.out.on (Below.refl _ _).drew)
      have HN' := Lib.hid (NodeS.below HN.out (Below.refl _ _).drew)
      clear HD HB HN
      refine Order.region_begin (S := Turns (fun g => g = x.heap.size + 1 ∨ g = x.heap.size + 1 + 1) (w2.setCell ⟨x.heap.size, 3, none⟩ (.int .i64 12)).drew) (by kernel_rfl) ?_
      generalize (w2.setCell ⟨x.heap.size, 3, none⟩ (.int .i64 12)).drew = w9 at *
      have HX := Lib.hid (show ∀ z, Turns (fun g => g = x.heap.size + 1 ∨ g = x.heap.size + 1 + 1) w9 z → (z.cell? ⟨x.heap.size, 0, none⟩ = some (.slice c.ao c.L.length c.cap) ∧ z.cell? ⟨x.heap.size, 1, none⟩ = some (.int .i64 ((atN c s : Nat))) ∧ z.cell? ⟨x.heap.size, 2, none⟩ = some (.int .i64 ((o : Nat))) ∧ z.cell? ⟨x.heap.size, 3, none⟩ = some (.int .i64 (12))) ∧ (z.cell? ⟨(x.heap.size + 1 + 1 + 1), 0, none⟩ = some (.int .i64 0) ∧ z.cell? ⟨(x.heap.size + 1 + 1 + 1), 1, none⟩ = some (.string ⟨#[]⟩) ∧ z.cell? ⟨(x.heap.size + 1 + 1 + 1), 2, none⟩ = some (.string ⟨#[]⟩) ∧ z.cell? ⟨(x.heap.size + 1 + 1 + 1), 3, none⟩ = some ((.slice none 0 0))) from fun z hz => by
        have h1 := DB.cells ((hz.heap HD'.out.box (by omega)) : DB x.heap.size c (atN c s) o 12 z)
        try rw [EJ.out] at h1
        try rw [EO.out] at h1
        try rw [E12.out] at h1
        exact ⟨h1, Box4.cells ((hz.heap HB'.out (by have := HR.out; omega)) : Box4 (x.heap.size + 1 + 1 + 1) 0 ⟨#[]⟩ ⟨#[]⟩ (.slice none 0 0) z)⟩)
      have hFin := HD'.out.fin HN'.out (atN c s) o 12 0 ⟨#[]⟩ ⟨#[]⟩ (.slice none 0 0)
      obtain ⟨d0, d1, d2, d3⟩ := HD'.out.res.cells
      obtain ⟨f0, f1, f2, f3⟩ := HD'.out.res.free
      obtain ⟨m0, m1, m2, m3⟩ := hFin.2.2.1.cells
      obtain ⟨n0, n1, n2, n3⟩ := nfree hFin.2.2.1
      obtain ⟨g0, g1, g2, g3⟩ := rcells hFin.2.1
      obtain ⟨k0, k1, k2, k3⟩ := hFin.2.2.2.1.cells
      have t1 := (setS_own w9 (x.heap.size + 1) c (atN c s) o 12).mono (G := fun g => g = x.heap.size + 1 ∨ g = x.heap.size + 1 + 1) fun _ _ h => .inl h
      have t2 := (setN_own (setS w9 (x.heap.size + 1) c (atN c s) o 12) (x.heap.size + 1 + 1) 0 ⟨#[]⟩ ⟨#[]⟩ (.slice none 0 0)).mono (G := fun g => g = x.heap.size + 1 ∨ g = x.heap.size + 1 + 1) fun _ _ h => .inr h
      have HG := Lib.hid (And.intro (And.intro g0 (And.intro g1 (And.intro g2 g3))) (And.intro (And.intro k0 (And.intro k1 (And.intro k2 k3))) hFin.2.2.2.2))
      have HT2 := Lib.hid t2
      unfold setS at m0 m1 m2 m3 n0 n1 n2 n3 t1
      try rw [EJ.out] at m0
      try rw [EO.out] at m0
      try rw [E12.out] at m0
      try rw [EJ.out] at m1
      try rw [EO.out] at m1
      try rw [E12.out] at m1
      try rw [EJ.out] at m2
      try rw [EO.out] at m2
      try rw [E12.out] at m2
      try rw [EJ.out] at m3
      try rw [EO.out] at m3
      try rw [E12.out] at m3
      try rw [EJ.out] at n0
      try rw [EO.out] at n0
      try rw [E12.out] at n0
      try rw [EJ.out] at n1
      try rw [EO.out] at n1
      try rw [E12.out] at n1
      try rw [EJ.out] at n2
      try rw [EO.out] at n2
      try rw [E12.out] at n2
      try rw [EJ.out] at n3
      try rw [EO.out] at n3
      try rw [E12.out] at n3
      try rw [EJ.out] at t1
      try rw [EO.out] at t1
      try rw [E12.out] at t1
      have HT1 := Lib.hid t1
      clear g0 g1 g2 g3 k0 k1 k2 k3 hFin t1 t2 HD' HB' HN'
      refine Order.reads_any (idx := [0, 1]) (by kernel_rfl) (Turns.refl _ _) (fun _ _ _ _ _ h => Order.noPanic_put h) 2 _ _ (by decide +kernel) ?_
      simp only [Order.pick, List.getElem?_toArray, List.getElem?_cons_zero, List.getElem?_cons_succ]
      repeat (first
        | (refine Order.reads_off (by rfl) ?_
           simp only [Act.put, List.setIfInBounds_toArray, List.set_cons_zero, List.set_cons_succ])
        | (apply Order.reads_on
           · rfl
           · intro x hx
             first
               | (go_simp; rfl)
               | (obtain ⟨⟨i0, i1, i2, i3⟩, i4, i5, i6, i7⟩ := HX.out x hx
                  go_simp; rfl)
           simp only [Act.put, List.setIfInBounds_toArray, List.set_cons_zero, List.set_cons_succ]))
      refine Order.reads_end ?_
      apply Order.acts_any (R := (Turns (fun g => g = x.heap.size + 1 ∨ g = x.heap.size + 1 + 1))) (fun h k => h.trans k fun _ _ h => h) (i := 2)
      · rfl
      · decide +kernel
      · rfl
      unfold Oper.wp
      go_simp
      refine ⟨HT1.out, ?_⟩
      apply Order.acts_any (R := (Turns (fun g => g = x.heap.size + 1 ∨ g = x.heap.size + 1 + 1))) (fun h k => h.trans k fun _ _ h => h) (i := 3)
      · rfl
      · decide +kernel
      · rfl
      unfold Oper.wp
      go_simp
      refine ⟨by have := HT2.out; unfold setN setS at this; (try rw [EJ.out] at this); (try rw [EO.out] at this); (try rw [E12.out] at this); exact this, ?_⟩
      refine wpAnyH_done (by decide +kernel) ?_ _
      refine NoPanic.normal ?_
      clear HX m0 m1 m2 m3 n0 n1 n2 n3 d0 d1 d2 d3 f0 f1 f2 f3 HT1 HT2
      go_wp2_with fail
      obtain ⟨⟨g0, g1, g2, g3⟩, ⟨k0, k1, k2, k3⟩, hN, hbb⟩ := HG.out
      unfold setN setS at g0 g1 g2 g3 k0 k1 k2 k3 hN hbb
      try rw [EJ.out] at g0
      try rw [EO.out] at g0
      try rw [E12.out] at g0
      try rw [EJ.out] at g1
      try rw [EO.out] at g1
      try rw [E12.out] at g1
      try rw [EJ.out] at g2
      try rw [EO.out] at g2
      try rw [E12.out] at g2
      try rw [EJ.out] at g3
      try rw [EO.out] at g3
      try rw [E12.out] at g3
      try rw [EJ.out] at k0
      try rw [EO.out] at k0
      try rw [E12.out] at k0
      try rw [EJ.out] at k1
      try rw [EO.out] at k1
      try rw [E12.out] at k1
      try rw [EJ.out] at k2
      try rw [EO.out] at k2
      try rw [E12.out] at k2
      try rw [EJ.out] at k3
      try rw [EO.out] at k3
      try rw [E12.out] at k3
      try rw [EJ.out] at hN
      try rw [EO.out] at hN
      try rw [E12.out] at hN
      try rw [EJ.out] at hbb
      try rw [EO.out] at hbb
      try rw [E12.out] at hbb
      refine bodyPost_ret (v := .tuple #[.agg #[.slice c.ao c.L.length c.cap, .int .i64 ((atN c s : Nat)), .int .i64 ((o : Nat)), .int .i64 (12)], node4 0 ⟨#[]⟩ ⟨#[]⟩ (.slice none 0 0)]) (by simp [results, Tryd.results93, go_sem, g0, g1, g2, g3, k0, k1, k2, k3]) rfl ⟨node4 0 ⟨#[]⟩ ⟨#[]⟩ (.slice none 0 0), ?_, ?_, hbb⟩
      · rw [HQ.out, hst]
      · rw [HQ.out]
        exact hN
    · have hs1 : (tl s).rest <:+ kt c.L := (tl_suf s).trans hs
      rw [hbr, hne] at HQ
      have hst := stV_tl (o := o + 1) hs (by rw [h40]; decide)
      have hput := HD.out.put2 (o + 1)
      rw [EO.out] at hput hst
      obtain ⟨b0, b1, b2, b3⟩ := hput.box.cells
      rw [EO.out] at b2
      obtain ⟨-, ub1, -, -⟩ := hput.box.free
      have hput2 := hput.put1 (atN c s + 1)
      rw [EJ.out] at hput2 hst
      obtain ⟨v0, v1, v2, v3⟩ := hput2.box.cells
      rw [EJ.out] at v1
      rw [EO.out] at v2
      have hBp : Box4 (x.heap.size + 1 + 1 + 1) 0 ⟨#[]⟩ ⟨#[]⟩ (.slice none 0 0) ((w2.setCell ⟨x.heap.size, 2, none⟩ (.int .i64 ((o : Int) + 1))).setCell ⟨x.heap.size, 1, none⟩ (.int .i64 ((atN c s : Int) + 1))) :=
        (set_own _ x.heap.size 1 _).heap ((set_own w2 x.heap.size 2 _).heap HB.out (by omega)) (by omega)
      have HD3 := Lib.hid (And.intro hput2 hBp)
      have hwo : IntKind.wrap .i64 ((o : Int) + 1) = (o : Int) + 1 := by
        rw [IntKind.wrap_i64] <;> omega
      have hwo2 : IntKind.wrap .i64 (o : Int) = (o : Int) := by
        rw [IntKind.wrap_i64] <;> omega
      have hU := hu (tl s) _ (h.below hput2.below) hs1
      rw [hst] at hU
      have HHo := Lib.hid ho
      clear hput hput2 hBp h4 h40 hbr hst hu hne
      have ho2 : ¬ (8 : Int) ≤ (o : Int) := by omega
      go_wp2_with fail
      clear c0 c1 c2 c3 u0 u1 u2 u3 e40 HD HB b0 b1 b2 b3 ub1 hw hwo
      generalize (w2.setCell ⟨x.heap.size, 2, none⟩ (.int .i64 ((o : Int) + 1))).setCell ⟨x.heap.size, 1, none⟩ (.int .i64 ((atN c s : Int) + 1)) = w3 at *
      clear w2
      refine hU.mono ?_
      rintro e w4 ⟨v, rfl, hv, hbw⟩
      clear hU v0 v1 v2 v3
      have hs2 : (u (tl s)).2.rest <:+ kt c.L := (hfu.suf _).trans hs1
      have hv' : NodeS (fun g => w3.heap.size ≤ g) w4 (u (tl s)).1 v := hv
      generalize (u (tl s)).2 = s2 at *
      generalize (u (tl s)).1 = n at *
      obtain ⟨no, nc, us, rfl, -⟩ := hv'.open
      have HDa := Lib.hid (And.intro (HD3.out.1.on hbw) (And.intro (HD3.out.2.on hbw) (hv'.turn (S' := fun g => x.heap.size + 3 ≤ g ∧ g ≠ x.heap.size + 1 + 1 + 1) (Turns.refl (fun _ => False) w4) (fun _ _ _ h => h) fun g hg _ => by have := HD3.out.1.lt; have := HD3.out.2.lt; omega)))
      clear hv hv' hbw HD3
      obtain ⟨c0, c1, c2, c3⟩ := HDa.out.1.box.cells
      obtain ⟨u0, u1, u2, u3⟩ := HDa.out.1.box.free
      have hS := HDa.out.1.setS (atN c s2) (o + 1) s2.err
      have hSB : Box4 (x.heap.size + 1 + 1 + 1) 0 ⟨#[]⟩ ⟨#[]⟩ (.slice none 0 0) (setS w4 x.heap.size c (atN c s2) (o + 1) s2.err) := (setS_own w4 x.heap.size c (atN c s2) (o + 1) s2.err).heap HDa.out.2.1 (by omega)
      obtain ⟨d0, d1, d2, d3⟩ := hSB.cells
      obtain ⟨f0, f1, f2, f3⟩ := nfree hSB
      have tS := setS_own w4 x.heap.size c (atN c s2) (o + 1) s2.err
      have tN := setN_own (setS w4 x.heap.size c (atN c s2) (o + 1) s2.err) (x.heap.size + 1 + 1 + 1) n.kind n.ta n.tb (.slice no n.kids.length nc)
      have hDn := hS.turn tN fun g hg => by omega
      have hNn := ((HDa.out.2.2.turn tS (fun g hg _ e => by omega) fun g hg _ => hg).turn (S' := fun g => x.heap.size + 3 ≤ g ∧ g ≠ x.heap.size + 1 + 1 + 1) tN (fun g hg _ e => hg.2 e) fun g hg _ => hg)
      have HD3 := Lib.hid (And.intro hDn (And.intro (Box4.set (k' := n.kind) (a' := n.ta) (b' := n.tb) (s' := .slice no n.kids.length nc) hSB) hNn))
      obtain ⟨v0, v1, v2, v3⟩ := hDn.box.cells
      have hT := dtake_any (o := o + 1) (s := s2) (h.below hDn.below) hs2 41 (by decide)
      have hs3 : (need s2 41).rest <:+ kt c.L := (need_suf _ 41).trans hs2
      have hst : stV c (o + 1) s2 = .agg #[.slice c.ao c.L.length c.cap, .int .i64 (atN c s2 : Nat), .int .i64 ((o : Int) + 1), .int .i64 (s2.err : Nat)] := by rw [← EO.out]
      clear hS hSB tS tN hDn hNn
      rw [hst] at hT
      unfold setN setS at HD3 v0 v1 v2 v3 hT
      unfold setS at d0 d1 d2 d3 f0 f1 f2 f3
      rw [EO.out] at HD3 v0 v1 v2 v3 hT d0 d1 d2 d3 f0 f1 f2 f3 c2
      try rw [EO.out] at v2
      unfold stV
      try rw [EO.out]
      go_wp2_with fail
      clear c0 c1 c2 c3 u0 u1 u2 u3 d0 d1 d2 d3 f0 f1 f2 f3 v0 v1 v2 v3 hst HDa
      generalize (((((((w4.setCell ⟨x.heap.size, 0, none⟩ (.slice c.ao c.L.length c.cap)).setCell ⟨x.heap.size, 1, none⟩ (.int .i64 (atN c s2 : Nat))).setCell ⟨x.heap.size, 2, none⟩ (.int .i64 ((o : Int) + 1))).setCell ⟨x.heap.size, 3, none⟩ (.int .i64 (s2.err : Nat))).setCell ⟨x.heap.size + 1 + 1 + 1, 0, none⟩ (.int .i64 n.kind)).setCell ⟨x.heap.size + 1 + 1 + 1, 1, none⟩ (.string n.ta)).setCell ⟨x.heap.size + 1 + 1 + 1, 2, none⟩ (.string n.tb)).setCell ⟨x.heap.size + 1 + 1 + 1, 3, none⟩ (.slice no n.kids.length nc) = w5 at *
      clear w4
      refine hT.mono ?_
      rintro e w6 ⟨rfl, hbw⟩
      have hD4 := HD3.out.1.on hbw
      have hB4 := HD3.out.2.1.on hbw
      have hN4 := HD3.out.2.2.turn (S' := fun g => x.heap.size + 3 ≤ g ∧ g ≠ x.heap.size + 1 + 1 + 1) (Turns.of_below (F := fun _ => False) hbw) (fun _ _ _ h => h) fun g hg _ => hg
      clear hT hbw HD3
      generalize need s2 41 = s3 at *
      have hst : stV c (o + 1) s3 = .agg #[.slice c.ao c.L.length c.cap, .int .i64 (atN c s3 : Nat), .int .i64 ((o : Int) + 1), .int .i64 (s3.err : Nat)] := by rw [← EO.out]
      obtain ⟨c0, c1, c2, c3⟩ := hD4.box.cells
      obtain ⟨u0, u1, u2, u3⟩ := hD4.box.free
      have hS := hD4.setS (atN c s3) (o + 1) s3.err
      have tS := setS_own w6 x.heap.size c (atN c s3) (o + 1) s3.err
      obtain ⟨b0, b1, b2, b3⟩ := hS.box.cells
      obtain ⟨ub0, ub1, ub2, ub3⟩ := hS.box.free
      have hD5 := hS.put2 o
      have tP := set_own (setS w6 x.heap.size c (atN c s3) (o + 1) s3.err) x.heap.size 2 (.int .i64 (o : Nat))
      have hB5 : Box4 (x.heap.size + 1 + 1 + 1) n.kind n.ta n.tb (.slice no n.kids.length nc) ((setS w6 x.heap.size c (atN c s3) (o + 1) s3.err).setCell ⟨x.heap.size, 2, none⟩ (.int .i64 (o : Nat))) := tP.heap (tS.heap hB4 (by omega)) (by omega)
      have hN5 := (hN4.turn (S' := fun g => x.heap.size + 3 ≤ g ∧ g ≠ x.heap.size + 1 + 1 + 1) tS (fun g hg _ e => by omega) fun g hg _ => hg).turn (S' := fun g => x.heap.size + 3 ≤ g) tP (fun g hg _ e => by omega) fun g hg _ => hg.1
      unfold setS at hD5 hB5 hN5 b0 b1 b2 b3 ub0 ub1 ub2 ub3
      rw [EO.out] at c2 hD5 hB5 hN5 b0 b1 b2 b3 ub0 ub1 ub2 ub3
      try rw [EO.out] at b2
      have HD := Lib.hid hD5
      have HB := Lib.hid hB5
      have HN := Lib.hid hN5
      have hw7 : IntKind.wrap .i64 ((o : Int) + 1 - 1) = (o : Int) := by
        rw [IntKind.wrap_i64] <;> omega
      clear hS tS tP hD4 hB4 hN4 hD5 hB5 hN5
      rw [hst]
      go_wp2_with fail
      clear c0 c1 c2 c3 u0 u1 u2 u3 b0 b1 b2 b3 ub0 ub1 ub2 ub3 hst hw7
      generalize ((((w6.setCell ⟨x.heap.size, 0, none⟩ (.slice c.ao c.L.length c.cap)).setCell ⟨x.heap.size, 1, none⟩ (.int .i64 (atN c s3 : Nat))).setCell ⟨x.heap.size, 2, none⟩ (.int .i64 ((o : Int) + 1))).setCell ⟨x.heap.size, 3, none⟩ (.int .i64 (s3.err : Nat))).setCell ⟨x.heap.size, 2, none⟩ (.int .i64 (o : Nat)) = w7 at *
      clear w6
      clear ho2 hwo2 ho HHo
      have HD' := Lib.hid HD.out.drew
      have HB' := Lib.hid (HB.out.on (Below.refl _ _).drew)
      have HN' := Lib.hid (NodeS.below HN.out (Below.refl _ _).drew)
      clear HD HB HN
      refine Order.region_begin (S := Turns (fun g => g = x.heap.size + 1 ∨ g = x.heap.size + 1 + 1) w7.drew) (by kernel_rfl) ?_
      generalize w7.drew = w9 at *
      have HX := Lib.hid (show ∀ z, Turns (fun g => g = x.heap.size + 1 ∨ g = x.heap.size + 1 + 1) w9 z → (z.cell? ⟨x.heap.size, 0, none⟩ = some (.slice c.ao c.L.length c.cap) ∧ z.cell? ⟨x.heap.size, 1, none⟩ = some (.int .i64 ((atN c s3 : Nat))) ∧ z.cell? ⟨x.heap.size, 2, none⟩ = some (.int .i64 ((o : Nat))) ∧ z.cell? ⟨x.heap.size, 3, none⟩ = some (.int .i64 ((s3.err : Nat)))) ∧ (z.cell? ⟨(x.heap.size + 1 + 1 + 1), 0, none⟩ = some (.int .i64 n.kind) ∧ z.cell? ⟨(x.heap.size + 1 + 1 + 1), 1, none⟩ = some (.string n.ta) ∧ z.cell? ⟨(x.heap.size + 1 + 1 + 1), 2, none⟩ = some (.string n.tb) ∧ z.cell? ⟨(x.heap.size + 1 + 1 + 1), 3, none⟩ = some ((.slice no n.kids.length nc))) from fun z hz => by
        have h1 := DB.cells ((hz.heap HD'.out.box (by omega)) : DB x.heap.size c (atN c s3) o s3.err z)
        try rw [EJ.out] at h1
        try rw [EO.out] at h1
        try rw [E12.out] at h1
        exact ⟨h1, Box4.cells ((hz.heap HB'.out (by have := HR.out; omega)) : Box4 (x.heap.size + 1 + 1 + 1) n.kind n.ta n.tb (.slice no n.kids.length nc) z)⟩)
      have hFin := HD'.out.fin HN'.out (atN c s3) o s3.err n.kind n.ta n.tb (.slice no n.kids.length nc)
      obtain ⟨d0, d1, d2, d3⟩ := HD'.out.res.cells
      obtain ⟨f0, f1, f2, f3⟩ := HD'.out.res.free
      obtain ⟨m0, m1, m2, m3⟩ := hFin.2.2.1.cells
      obtain ⟨n0, n1, n2, n3⟩ := nfree hFin.2.2.1
      obtain ⟨g0, g1, g2, g3⟩ := rcells hFin.2.1
      obtain ⟨k0, k1, k2, k3⟩ := hFin.2.2.2.1.cells
      have t1 := (setS_own w9 (x.heap.size + 1) c (atN c s3) o s3.err).mono (G := fun g => g = x.heap.size + 1 ∨ g = x.heap.size + 1 + 1) fun _ _ h => .inl h
      have t2 := (setN_own (setS w9 (x.heap.size + 1) c (atN c s3) o s3.err) (x.heap.size + 1 + 1) n.kind n.ta n.tb (.slice no n.kids.length nc)).mono (G := fun g => g = x.heap.size + 1 ∨ g = x.heap.size + 1 + 1) fun _ _ h => .inr h
      have HG := Lib.hid (And.intro (And.intro g0 (And.intro g1 (And.intro g2 g3))) (And.intro (And.intro k0 (And.intro k1 (And.intro k2 k3))) hFin.2.2.2.2))
      have HT2 := Lib.hid t2
      unfold setS at m0 m1 m2 m3 n0 n1 n2 n3 t1
      try rw [EJ.out] at m0
      try rw [EO.out] at m0
      try rw [E12.out] at m0
      try rw [EJ.out] at m1
      try rw [EO.out] at m1
      try rw [E12.out] at m1
      try rw [EJ.out] at m2
      try rw [EO.out] at m2
      try rw [E12.out] at m2
      try rw [EJ.out] at m3
      try rw [EO.out] at m3
      try rw [E12.out] at m3
      try rw [EJ.out] at n0
      try rw [EO.out] at n0
      try rw [E12.out] at n0
      try rw [EJ.out] at n1
      try rw [EO.out] at n1
      try rw [E12.out] at n1
      try rw [EJ.out] at n2
      try rw [EO.out] at n2
      try rw [E12.out] at n2
      try rw [EJ.out] at n3
      try rw [EO.out] at n3
      try rw [E12.out] at n3
      try rw [EJ.out] at t1
      try rw [EO.out] at t1
      try rw [E12.out] at t1
      have HT1 := Lib.hid t1
      clear g0 g1 g2 g3 k0 k1 k2 k3 hFin t1 t2 HD' HB' HN'
      refine Order.reads_any (idx := [0, 1]) (by kernel_rfl) (Turns.refl _ _) (fun _ _ _ _ _ h => Order.noPanic_put h) 2 _ _ (by decide +kernel) ?_
      simp only [Order.pick, List.getElem?_toArray, List.getElem?_cons_zero, List.getElem?_cons_succ]
      repeat (first
        | (refine Order.reads_off (by rfl) ?_
           simp only [Act.put, List.setIfInBounds_toArray, List.set_cons_zero, List.set_cons_succ])
        | (apply Order.reads_on
           · rfl
           · intro x hx
             first
               | (go_simp; rfl)
               | (obtain ⟨⟨i0, i1, i2, i3⟩, i4, i5, i6, i7⟩ := HX.out x hx
                  go_simp; rfl)
           simp only [Act.put, List.setIfInBounds_toArray, List.set_cons_zero, List.set_cons_succ]))
      refine Order.reads_end ?_
      apply Order.acts_any (R := (Turns (fun g => g = x.heap.size + 1 ∨ g = x.heap.size + 1 + 1))) (fun h k => h.trans k fun _ _ h => h) (i := 2)
      · rfl
      · decide +kernel
      · rfl
      unfold Oper.wp
      go_simp
      refine ⟨HT1.out, ?_⟩
      apply Order.acts_any (R := (Turns (fun g => g = x.heap.size + 1 ∨ g = x.heap.size + 1 + 1))) (fun h k => h.trans k fun _ _ h => h) (i := 3)
      · rfl
      · decide +kernel
      · rfl
      unfold Oper.wp
      go_simp
      refine ⟨by have := HT2.out; unfold setN setS at this; (try rw [EJ.out] at this); (try rw [EO.out] at this); (try rw [E12.out] at this); exact this, ?_⟩
      refine wpAnyH_done (by decide +kernel) ?_ _
      refine NoPanic.normal ?_
      clear HX m0 m1 m2 m3 n0 n1 n2 n3 d0 d1 d2 d3 f0 f1 f2 f3 HT1 HT2
      go_wp2_with fail
      obtain ⟨⟨g0, g1, g2, g3⟩, ⟨k0, k1, k2, k3⟩, hN, hbb⟩ := HG.out
      unfold setN setS at g0 g1 g2 g3 k0 k1 k2 k3 hN hbb
      try rw [EJ.out] at g0
      try rw [EO.out] at g0
      try rw [E12.out] at g0
      try rw [EJ.out] at g1
      try rw [EO.out] at g1
      try rw [E12.out] at g1
      try rw [EJ.out] at g2
      try rw [EO.out] at g2
      try rw [E12.out] at g2
      try rw [EJ.out] at g3
      try rw [EO.out] at g3
      try rw [E12.out] at g3
      try rw [EJ.out] at k0
      try rw [EO.out] at k0
      try rw [E12.out] at k0
      try rw [EJ.out] at k1
      try rw [EO.out] at k1
      try rw [E12.out] at k1
      try rw [EJ.out] at k2
      try rw [EO.out] at k2
      try rw [E12.out] at k2
      try rw [EJ.out] at k3
      try rw [EO.out] at k3
      try rw [E12.out] at k3
      try rw [EJ.out] at hN
      try rw [EO.out] at hN
      try rw [E12.out] at hN
      try rw [EJ.out] at hbb
      try rw [EO.out] at hbb
      try rw [E12.out] at hbb
      refine bodyPost_ret (v := .tuple #[.agg #[.slice c.ao c.L.length c.cap, .int .i64 ((atN c s3 : Nat)), .int .i64 ((o : Nat)), .int .i64 ((s3.err : Nat))], node4 n.kind n.ta n.tb (.slice no n.kids.length nc)]) (by simp [results, Tryd.results93, go_sem, g0, g1, g2, g3, k0, k1, k2, k3]) rfl ⟨node4 n.kind n.ta n.tb (.slice no n.kids.length nc), ?_, ?_, hbb⟩
      · rw [HQ.out, show stV c o (_, s3).2 = stV c o s3 from rfl]
      · rw [HQ.out]
        exact hN
  have e40 : (next s == 40) = false := by simpa using h40
  go_wp2_with fail
  have hK := dkind_any (o := o) (s := s) (h.below HD.out.below) hs
  refine hK.mono ?_
  rintro e w3 ⟨rfl, hbw⟩
  have HD1 := Lib.hid (HD.out.on hbw)
  clear hK hbw HD HB HR c0 c1 c2 c3 e40 w2
  obtain ⟨c0, c1, c2, c3⟩ := HD1.out.box.cells
  obtain ⟨-, u1, -, -⟩ := HD1.out.box.free
  by_cases h4 : next s = 4
  · have HQ := Lib.hid (HQ.out.trans (if_pos h4))
    have e4 : (next s == 4) = true := by simpa using h4
    have hst := stV_tl (o := o) hs (by rw [h4]; decide)
    have HD := Lib.hid (HD1.out.put1 (atN c s + 1))
    rw [EJ.out] at HD hst
    have hFin := HD.out.fin (n := (.mk 1 none0 none0 [])) (v := node4 1 ⟨#[]⟩ ⟨#[]⟩ (.slice none 0 0)) (leaf (by decide) (by decide)) (atN c s + 1) o s.err 1 ⟨#[]⟩ ⟨#[]⟩ (.slice none 0 0)
    obtain ⟨c0, c1, c2, c3⟩ := HD.out.box.cells
    obtain ⟨d0, d1, d2, d3⟩ := HD.out.res.cells
    obtain ⟨f0, f1, f2, f3⟩ := HD.out.res.free
    obtain ⟨m0, m1, m2, m3⟩ := hFin.2.2.1.cells
    obtain ⟨n0, n1, n2, n3⟩ := nfree hFin.2.2.1
    obtain ⟨g0, g1, g2, g3⟩ := rcells hFin.2.1
    obtain ⟨k0, k1, k2, k3⟩ := hFin.2.2.2.1.cells
    have HG := Lib.hid (And.intro (And.intro g0 (And.intro g1 (And.intro g2 g3))) (And.intro (And.intro k0 (And.intro k1 (And.intro k2 k3))) hFin.2.2.2.2))
    unfold setS at m0 m1 m2 m3 n0 n1 n2 n3
    clear g0 g1 g2 g3 k0 k1 k2 k3 hFin
    try rw [EJ.out] at c1
    try rw [EJ.out] at m0
    try rw [EJ.out] at m1
    try rw [EJ.out] at m2
    try rw [EJ.out] at m3
    try rw [EJ.out] at n0
    try rw [EJ.out] at n1
    try rw [EJ.out] at n2
    try rw [EJ.out] at n3
    clear HD
    go_wp2_with fail
    obtain ⟨⟨g0, g1, g2, g3⟩, ⟨k0, k1, k2, k3⟩, hN, hbb⟩ := HG.out
    unfold setN setS at g0 g1 g2 g3 k0 k1 k2 k3 hN hbb
    try rw [EJ.out] at g0
    try rw [EO.out] at g0
    try rw [E12.out] at g0
    try rw [EJ.out] at g1
    try rw [EO.out] at g1
    try rw [E12.out] at g1
    try rw [EJ.out] at g2
    try rw [EO.out] at g2
    try rw [E12.out] at g2
    try rw [EJ.out] at g3
    try rw [EO.out] at g3
    try rw [E12.out] at g3
    try rw [EJ.out] at k0
    try rw [EO.out] at k0
    try rw [E12.out] at k0
    try rw [EJ.out] at k1
    try rw [EO.out] at k1
    try rw [E12.out] at k1
    try rw [EJ.out] at k2
    try rw [EO.out] at k2
    try rw [E12.out] at k2
    try rw [EJ.out] at k3
    try rw [EO.out] at k3
    try rw [E12.out] at k3
    try rw [EJ.out] at hN
    try rw [EO.out] at hN
    try rw [E12.out] at hN
    try rw [EJ.out] at hbb
    try rw [EO.out] at hbb
    try rw [E12.out] at hbb
    refine bodyPost_ret (v := .tuple #[.agg #[.slice c.ao c.L.length c.cap, .int .i64 ((atN c s : Int) + 1), .int .i64 ((o : Nat)), .int .i64 ((s.err : Nat))], node4 1 ⟨#[]⟩ ⟨#[]⟩ (.slice none 0 0)]) (by simp [results, Tryd.results93, go_sem, g0, g1, g2, g3, k0, k1, k2, k3]) rfl ⟨node4 1 ⟨#[]⟩ ⟨#[]⟩ (.slice none 0 0), ?_, ?_, hbb⟩
    · rw [HQ.out, hst]
    · rw [HQ.out]
      exact hN
  · have HQ := Lib.hid (HQ.out.trans ((if_neg h4).trans (if_neg h40)))
    rw [word_tk] at HQ
    simp only at HQ
    have e4 : (next s == 4) = false := by simpa using h4
    have hs1 : (need s 1).rest <:+ kt c.L := (need_suf s 1).trans hs
    have hT := dtake_any (o := o) (s := s) (h.below HD1.out.below) hs 1 (by decide)
    have hA : (tk s 1).size ≤ maxLen := by
      have := word_short (s := s) (fun t ht => h.short t (hs.subset ht))
      rwa [word_tk] at this
    have HA := Lib.hid hA
    clear h4 h40 hA hw
    go_wp2_with fail
    refine hT.mono ?_
    rintro e w4 ⟨rfl, hbw⟩
    have HD2 := Lib.hid (HD1.out.on hbw)
    clear hT hbw HD1 c0 c1 c2 c3 u1 e4 w3
    generalize tk s 1 = A at *
    generalize need s 1 = s1 at *
    have HD := Lib.hid (HD2.out.setS (atN c s1) o s1.err)
    obtain ⟨c0, c1, c2, c3⟩ := HD2.out.box.cells
    obtain ⟨u0, u1, u2, u3⟩ := HD2.out.box.free
    obtain ⟨v0, v1, v2, v3⟩ := HD.out.box.cells
    unfold setS at HD v0 v1 v2 v3
    go_wp2_with fail
    clear c0 c1 c2 c3 u0 u1 u2 u3 HD2
    generalize (((w4.setCell ⟨x.heap.size, 0, none⟩ (.slice c.ao c.L.length c.cap)).setCell ⟨x.heap.size, 1, none⟩ (.int .i64 (atN c s1 : Nat))).setCell ⟨x.heap.size, 2, none⟩ (.int .i64 (o : Nat))).setCell ⟨x.heap.size, 3, none⟩ (.int .i64 (s1.err : Nat)) = w5 at *
    clear w4
    have hK := dkind_any (o := o) (s := s1) (h.below HD.out.below) hs1
    refine hK.mono ?_
    rintro e w6 ⟨rfl, hbw⟩
    have HD1 := Lib.hid (HD.out.on hbw)
    clear hK hbw HD v0 v1 v2 v3 w5
    obtain ⟨c0, c1, c2, c3⟩ := HD1.out.box.cells
    obtain ⟨u0, u1, u2, u3⟩ := HD1.out.box.free
    have ej : ((atN c s1 + 1 : Nat) : Int) = (atN c s1 : Int) + 1 := by omega
    have hjl : atN c s1 ≤ 10000 := by have := h.len; unfold atN; omega
    have hw : IntKind.wrap .i64 ((atN c s1 : Int) + 1) = (atN c s1 : Int) + 1 := by
      rw [IntKind.wrap_i64] <;> omega
    have EJ := Lib.hid ej
    clear ej hjl
    by_cases h5 : next s1 = 5
    · have HQ := Lib.hid (HQ.out.trans (if_pos h5))
      rw [word_tk] at HQ
      simp only at HQ
      have e5 : (next s1 == 5) = true := by simpa using h5
      have hst := stV_tl (o := o) hs1 (by rw [h5]; decide)
      have HD := Lib.hid (HD1.out.put1 (atN c s1 + 1))
      rw [EJ.out] at HD hst
      have hs2 : (tl s1).rest <:+ kt c.L := (tl_suf s1).trans hs1
      have hT := dtake_any (o := o) (s := tl s1) (h.below HD.out.below) hs2 1 (by decide)
      have hs3 : (need (tl s1) 1).rest <:+ kt c.L := (need_suf _ 1).trans hs2
      have hB : (tk (tl s1) 1).size ≤ maxLen := by
        have := word_short (s := tl s1) (fun t ht => h.short t (hs2.subset ht))
        rwa [word_tk] at this
      have HB := Lib.hid hB
      rw [hst] at hT
      obtain ⟨v0, v1, v2, v3⟩ := HD.out.box.cells
      rw [EJ.out] at v1
      clear hB h5
      go_wp2_with fail
      clear c0 c1 c2 c3 u0 u1 u2 u3 HD1 hw hst
      generalize w6.setCell ⟨x.heap.size, 1, none⟩ (.int .i64 ((atN c s1 : Int) + 1)) = w7 at *
      clear w6
      refine hT.mono ?_
      rintro e w8 ⟨rfl, hbw⟩
      have HD2 := Lib.hid (HD.out.on hbw)
      clear hT hbw HD v0 v1 v2 v3 e5 w7
      generalize tk (tl s1) 1 = B at *
      generalize need (tl s1) 1 = s3 at *
      have HD := Lib.hid (HD2.out.setS (atN c s3) o s3.err)
      obtain ⟨b0, b1, b2, b3⟩ := HD2.out.box.cells
      obtain ⟨u0, u1, u2, u3⟩ := HD2.out.box.free
      have hFin := HD.out.fin (n := (.mk 3 A B [])) (v := node4 3 A B (.slice none 0 0)) (leaf HA.out HB.out) (atN c s3) o s3.err 3 A B (.slice none 0 0)
      obtain ⟨c0, c1, c2, c3⟩ := HD.out.box.cells
      obtain ⟨d0, d1, d2, d3⟩ := HD.out.res.cells
      obtain ⟨f0, f1, f2, f3⟩ := HD.out.res.free
      obtain ⟨m0, m1, m2, m3⟩ := hFin.2.2.1.cells
      obtain ⟨n0, n1, n2, n3⟩ := nfree hFin.2.2.1
      obtain ⟨g0, g1, g2, g3⟩ := rcells hFin.2.1
      obtain ⟨k0, k1, k2, k3⟩ := hFin.2.2.2.1.cells
      have HG := Lib.hid (And.intro (And.intro g0 (And.intro g1 (And.intro g2 g3))) (And.intro (And.intro k0 (And.intro k1 (And.intro k2 k3))) hFin.2.2.2.2))
      unfold setS at m0 m1 m2 m3 n0 n1 n2 n3
      clear g0 g1 g2 g3 k0 k1 k2 k3 hFin
      try rw [EJ.out] at c1
      try rw [EJ.out] at m0
      try rw [EJ.out] at m1
      try rw [EJ.out] at m2
      try rw [EJ.out] at m3
      try rw [EJ.out] at n0
      try rw [EJ.out] at n1
      try rw [EJ.out] at n2
      try rw [EJ.out] at n3
      unfold setS at HD c0 c1 c2 c3 d0 d1 d2 d3 f0 f1 f2 f3
      clear HD HD2
      go_wp2_with fail
      obtain ⟨⟨g0, g1, g2, g3⟩, ⟨k0, k1, k2, k3⟩, hN, hbb⟩ := HG.out
      unfold setN setS at g0 g1 g2 g3 k0 k1 k2 k3 hN hbb
      try rw [EJ.out] at g0
      try rw [EO.out] at g0
      try rw [E12.out] at g0
      try rw [EJ.out] at g1
      try rw [EO.out] at g1
      try rw [E12.out] at g1
      try rw [EJ.out] at g2
      try rw [EO.out] at g2
      try rw [E12.out] at g2
      try rw [EJ.out] at g3
      try rw [EO.out] at g3
      try rw [E12.out] at g3
      try rw [EJ.out] at k0
      try rw [EO.out] at k0
      try rw [E12.out] at k0
      try rw [EJ.out] at k1
      try rw [EO.out] at k1
      try rw [E12.out] at k1
      try rw [EJ.out] at k2
      try rw [EO.out] at k2
      try rw [E12.out] at k2
      try rw [EJ.out] at k3
      try rw [EO.out] at k3
      try rw [E12.out] at k3
      try rw [EJ.out] at hN
      try rw [EO.out] at hN
      try rw [E12.out] at hN
      try rw [EJ.out] at hbb
      try rw [EO.out] at hbb
      try rw [E12.out] at hbb
      refine bodyPost_ret (v := .tuple #[.agg #[.slice c.ao c.L.length c.cap, .int .i64 ((atN c s3 : Nat)), .int .i64 ((o : Nat)), .int .i64 ((s3.err : Nat))], node4 3 A B (.slice none 0 0)]) (by simp [results, Tryd.results93, go_sem, g0, g1, g2, g3, k0, k1, k2, k3]) rfl ⟨node4 3 A B (.slice none 0 0), ?_, ?_, hbb⟩
      · rw [HQ.out, show stV c o (_, s3).2 = stV c o s3 from rfl]
      · rw [HQ.out]
        exact hN
    · have HQ := Lib.hid (HQ.out.trans (if_neg h5))
      have e5 : (next s1 == 5) = false := by simpa using h5
      have HD := HD1
      have hFin := HD.out.fin (n := (.mk 2 A none0 [])) (v := node4 2 A ⟨#[]⟩ (.slice none 0 0)) (leaf HA.out (by decide)) (atN c s1) o s1.err 2 A ⟨#[]⟩ (.slice none 0 0)
      obtain ⟨c0, c1, c2, c3⟩ := HD.out.box.cells
      obtain ⟨d0, d1, d2, d3⟩ := HD.out.res.cells
      obtain ⟨f0, f1, f2, f3⟩ := HD.out.res.free
      obtain ⟨m0, m1, m2, m3⟩ := hFin.2.2.1.cells
      obtain ⟨n0, n1, n2, n3⟩ := nfree hFin.2.2.1
      obtain ⟨g0, g1, g2, g3⟩ := rcells hFin.2.1
      obtain ⟨k0, k1, k2, k3⟩ := hFin.2.2.2.1.cells
      have HG := Lib.hid (And.intro (And.intro g0 (And.intro g1 (And.intro g2 g3))) (And.intro (And.intro k0 (And.intro k1 (And.intro k2 k3))) hFin.2.2.2.2))
      unfold setS at m0 m1 m2 m3 n0 n1 n2 n3
      clear g0 g1 g2 g3 k0 k1 k2 k3 hFin
      try rw [EJ.out] at c1
      try rw [EJ.out] at m0
      try rw [EJ.out] at m1
      try rw [EJ.out] at m2
      try rw [EJ.out] at m3
      try rw [EJ.out] at n0
      try rw [EJ.out] at n1
      try rw [EJ.out] at n2
      try rw [EJ.out] at n3
      clear HD HD1 hw
      go_wp2_with fail
      obtain ⟨⟨g0, g1, g2, g3⟩, ⟨k0, k1, k2, k3⟩, hN, hbb⟩ := HG.out
      unfold setN setS at g0 g1 g2 g3 k0 k1 k2 k3 hN hbb
      try rw [EJ.out] at g0
      try rw [EO.out] at g0
      try rw [E12.out] at g0
      try rw [EJ.out] at g1
      try rw [EO.out] at g1
      try rw [E12.out] at g1
      try rw [EJ.out] at g2
      try rw [EO.out] at g2
      try rw [E12.out] at g2
      try rw [EJ.out] at g3
      try rw [EO.out] at g3
      try rw [E12.out] at g3
      try rw [EJ.out] at k0
      try rw [EO.out] at k0
      try rw [E12.out] at k0
      try rw [EJ.out] at k1
      try rw [EO.out] at k1
      try rw [E12.out] at k1
      try rw [EJ.out] at k2
      try rw [EO.out] at k2
      try rw [E12.out] at k2
      try rw [EJ.out] at k3
      try rw [EO.out] at k3
      try rw [E12.out] at k3
      try rw [EJ.out] at hN
      try rw [EO.out] at hN
      try rw [E12.out] at hN
      try rw [EJ.out] at hbb
      try rw [EO.out] at hbb
      try rw [E12.out] at hbb
      refine bodyPost_ret (v := .tuple #[.agg #[.slice c.ao c.L.length c.cap, .int .i64 ((atN c s1 : Nat)), .int .i64 ((o : Nat)), .int .i64 ((s1.err : Nat))], node4 2 A ⟨#[]⟩ (.slice none 0 0)]) (by simp [results, Tryd.results93, go_sem, g0, g1, g2, g3, k0, k1, k2, k3]) rfl ⟨node4 2 A ⟨#[]⟩ (.slice none 0 0), ?_, ?_, hbb⟩
      · rw [HQ.out, show stV c o (_, s1).2 = stV c o s1 from rfl]
      · rw [HQ.out]
        exact hN
end Gr
end Go.Proofs.YtbphmaoomnocmaaDoor
