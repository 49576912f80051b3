/-
  Layer 7 (grammar): atom and brackets; all of union, by how many brackets may still be opened.
-/
import Derived.Test.YtbphmaoomnocmaaDoorGrLess
namespace Go.Proofs.YtbphmaoomnocmaaDoor
open Go.RowKit
namespace Gr
open Knot (Turns NewRow)
open Tr (Nd none0 node4 own_slice RowAt own_open Box4)
open Sg (Tok kt)

theorem leaf {S : Nat → Prop} {x : World} {k : Int} {a b : ByteArray} (ha : a.size ≤ maxLen) (hb : b.size ≤ maxLen) : NodeS S x (.mk k a b []) (node4 k a b (.slice none 0 0)) := by
  rw [NodeS]
  refine ⟨none, 0, [], rfl, ⟨ha, hb⟩, fun h => absurd rfl h, ?_⟩
  rw [NodesS]
theorem word_short {s : St} (h : Short s.rest) : (word s).1.size ≤ maxLen := by
  rw [word]
  split
  · rename_i hn
    obtain ⟨-, t, r, hr, -⟩ := next_good (s := s) (by rw [hn]; decide)
    rw [hr]
    have := h t (by rw [hr]; simp)
    show (Sg.txt t.2).size ≤ maxLen
    unfold maxLen
    simp [Sg.txt, ByteArray.size]
    omega
  · show none0.size ≤ maxLen
    decide
/-- What atom stands on: its result's box. -/
structure At (c : Ctx) (o : Nat) (x : World) (s : St) (w : World) : Prop where
  rd : Rd c o s w
  res : Box4 x.heap.size 0 ⟨#[]⟩ ⟨#[]⟩ (.slice none 0 0) w
  turns : Turns (fun k => k = c.R) x w
  low : c.R < x.heap.size
theorem At.turn {c : Ctx} {o o' : Nat} {x : World} {s s' : St} {w y : World} (h : At c o x s w) (hr : Rd c o' s' y) (ht : Turns (fun k => k = c.R) w y) : At c o' x s' y :=
  ⟨hr, (ht.block _ h.res.lt (by have := h.low; omega)).trans h.res, h.turns.trans ht fun _ _ h => h, h.low⟩
/-- How a node is handed back. -/
theorem At.fin {c : Ctx} {o : Nat} {x : World} {s : St} {w : World} (h : At c o x s w) {n : Nd} {v : Value} (hn : NodeS (fun g => x.heap.size + 1 ≤ g) w n v) (k : Int) (a b : ByteArray) (sl : Value) :
    NodeS (fun g => x.heap.size ≤ g) (setN w x.heap.size k a b sl) n v ∧ Rd c o s (setN w x.heap.size k a b sl) ∧ Turns (fun g => g = c.R) x (setN w x.heap.size k a b sl) :=
  fin_node hn (Nat.lt_succ_self _) h.rd h.turns h.low k a b sl
set_option maxHeartbeats 4000000 in
set_option maxRecDepth 100000 in
theorem atom_any {c : Ctx} {o : Nat} {br : P} (hb : ∀ s x, Rd c o s x → next s = 40 → Calls Tryd.prog 99 #[.pointer (some ⟨c.R, 0, none⟩)] x (Out nodeE c o (br s) x)) {s : St} {x : World} (h : Rd c o s x) :
    Calls Tryd.prog 92 #[.pointer (some ⟨c.R, 0, none⟩)] x (Out nodeE c o (atomOf br s) x) := by
  have al : Below x.heap.size x (x.alloc (.cells #[.int .i64 0, .string ⟨#[]⟩, .string ⟨#[]⟩, .slice none 0 0] 25)) := (Below.refl _ _).alloc (Nat.le_refl _) _
  have hA : At c o x s (x.alloc (.cells #[.int .i64 0, .string ⟨#[]⟩, .string ⟨#[]⟩, .slice none 0 0] 25)) := ⟨h.below al, Box4.new x _ _ _ _, Turns.of_below al, h.lt⟩
  have hz : (x.alloc (.cells #[.int .i64 0, .string ⟨#[]⟩, .string ⟨#[]⟩, .slice none 0 0] 25)).heap.size = x.heap.size + 1 := by simp
  have HZ := Lib.hid hz
  have HA := Lib.hid hA
  have HB := Lib.hid hb
  have HS := Lib.hid h.short
  have HQ := Lib.hid (show atomOf br s = if next s = 4 then (.mk 1 none0 none0 [], tl s) else if next s = 40 then br s else if next (word s).2 = 5 then (.mk 3 (word s).1 (word (tl (word s).2)).1 [], (word (tl (word s).2)).2) else (.mk 2 (word s).1 none0 [], (word s).2) from rfl)
  clear h al hA hb hz
  generalize atomOf br s = res at *
  go_enter Tryd.func92, Tryd.ntmps92
  go_wp2_with fail
  have hT := take_any HA.out.rd 4 (by decide)
  generalize x.alloc (.cells #[.int .i64 0, .string ⟨#[]⟩, .string ⟨#[]⟩, .slice none 0 0] 25) = w1 at *
  by_cases h4 : next s = 4
  · have HQ2 := Lib.hid (HQ.out.trans (if_pos h4))
    rw [if_pos h4, decide_eq_true h4] at hT
    have HT := Lib.hid hT
    clear hT HQ HB h4
    refine HT.out.mono ?_
    rintro e w2 ⟨rfl, h1, h2⟩
    have hA := HA.out.turn h1 h2
    have HF := Lib.hid (fun k a b s => hA.fin (n := .mk 1 none0 none0 []) (v := node4 1 none0 none0 (.slice none 0 0)) (leaf (by decide) (by decide)) k a b s)
    have hb2 := hA.res
    have hb3 := Box4.set (k' := 1) (a' := ⟨#[]⟩) (b' := ⟨#[]⟩) (s' := .slice none 0 0) hb2
    obtain ⟨d0, d1, d2, d3⟩ := hb2.cells
    have hfz := fun i => Lib.frozen_of_heap hb2 i
    have f0 := hfz 0
    have f1 := hfz 1
    have f2 := hfz 2
    have f3 := hfz 3
    have HG := Lib.hid hb3.cells
    clear hA hb2 hb3 hfz HA HT h1 h2 HZ
    go_wp2_with fail
    obtain ⟨g0, g1, g2, g3⟩ := HG.out
    unfold setN at g0 g1 g2 g3
    exact bodyPost_ret (v := node4 1 none0 none0 (.slice none 0 0)) (by simp [results, Tryd.results92, go_sem, g0, g1, g2, g3, none0]) rfl ⟨_, rfl, by rw [HQ2.out]; exact HF.out 1 ⟨#[]⟩ ⟨#[]⟩ (.slice none 0 0)⟩
  · have HQ2 := Lib.hid (HQ.out.trans (if_neg h4))
    rw [if_neg h4, decide_eq_false h4] at hT
    have HT := Lib.hid hT
    clear hT HQ h4
    refine HT.out.mono ?_
    rintro e w2 ⟨rfl, h1, h2⟩
    have HA2 := Lib.hid (And.intro (HA.out.turn h1 h2) (show w1.heap.size ≤ w2.heap.size from h2.size))
    have hN := next_any h1
    have HW := Lib.hid (word_any h1)
    clear h1 h2 HA HT
    by_cases h40 : next s = 40
    · have HQ3 := Lib.hid (HQ2.out.trans (if_pos h40))
      rw [h40] at hN
      have HN := Lib.hid hN
      have HC := Lib.hid (HB.out s w2 HA2.out.1.rd h40)
      clear hN HW HQ2 HB h40
      go_wp2_with (go_at_call 36; refine HN.out.mono ?_; rintro e y ⟨rfl, rfl⟩)
      refine HC.out.mono ?_
      rintro e z ⟨u, rfl, hu, h3, h5⟩
      rw [← HQ3.out] at hu h3
      have hu' : NodeS (fun g => y.heap.size ≤ g) z res.1 u := hu
      obtain ⟨no, nc, us, rfl, -⟩ := hu'.open
      have hA := HA2.out.1.turn h3 h5
      have HF := Lib.hid (fun k a b s => hA.fin (hu'.turn (Turns.refl (fun _ => False) _) (fun _ _ _ h => h) fun g hg _ => by have := HA2.out.2; have := HZ.out; omega) k a b s)
      have hb2 := hA.res
      have hb3 := Box4.set (k' := res.1.kind) (a' := res.1.ta) (b' := res.1.tb) (s' := .slice no res.1.kids.length nc) hb2
      obtain ⟨d0, d1, d2, d3⟩ := hb2.cells
      have hfz := fun i => Lib.frozen_of_heap hb2 i
      have f0 := hfz 0
      have f1 := hfz 1
      have f2 := hfz 2
      have f3 := hfz 3
      have HG := Lib.hid hb3.cells
      clear hA hb2 hb3 hfz HA2 HC h3 h5 HZ hu hu' HQ3 HN
      obtain ⟨n, s2⟩ := res
      simp only at *
      go_wp2_with fail
      obtain ⟨g0, g1, g2, g3⟩ := HG.out
      unfold setN at g0 g1 g2 g3
      exact bodyPost_ret (v := node4 n.kind n.ta n.tb (.slice no n.kids.length nc)) (by simp [results, Tryd.results92, go_sem, g0, g1, g2, g3]) rfl ⟨_, rfl, HF.out n.kind n.ta n.tb (.slice no n.kids.length nc)⟩
    · have HQ3 := Lib.hid (HQ2.out.trans (if_neg h40))
      have e40 : ((next s) == 40) = false := by simpa using h40
      have HN := Lib.hid hN
      have hw1 := word_short HS.out
      have hsh2 : Short (word s).2.rest := fun t ht => HS.out t ((word_fine.suf s).subset ht)
      have HS2 := Lib.hid (And.intro hw1 hsh2)
      clear hN HQ2 HB h40 HS hw1 hsh2
      generalize next s = nx at *
      go_wp2_with (go_at_call 36; refine HN.out.mono ?_; rintro e y ⟨rfl, rfl⟩)
      refine HW.out.mono ?_
      rintro e w3 ⟨rfl, h1, h2⟩
      have HA3 := Lib.hid (HA2.out.1.turn h1 h2)
      have hT := take_any h1 5 (by decide)
      clear h1 h2 HA2 HW HN e40
      go_wp2_with fail
      by_cases h5 : next (word s).2 = 5
      · have HQ4 := Lib.hid (HQ3.out.trans (if_pos h5))
        rw [if_pos h5, decide_eq_true h5] at hT
        have hsh3 : Short (tl (word s).2).rest := fun t ht => HS2.out.2 t ((tl_suf _).subset ht)
        have hw3 := word_short hsh3
        have HS3 := Lib.hid (And.intro HS2.out.1 hw3)
        have HT := Lib.hid hT
        clear hT h5 HQ3 hsh3 hw3 HS2
        generalize tl (word s).2 = s3 at *
        generalize (word s).1 = A at *
        refine HT.out.mono ?_
        rintro e w4 ⟨rfl, h1, h2⟩
        have HA4 := Lib.hid (HA3.out.turn h1 h2)
        have HW2 := Lib.hid (word_any h1)
        clear h1 h2 HT HA3
        go_wp2_with fail
        refine HW2.out.mono ?_
        rintro e w5 ⟨rfl, h1, h2⟩
        have hA := HA4.out.turn h1 h2
        clear h1 h2 HA4 HW2
        generalize (word s3).1 = B at *
        generalize (word s3).2 = s4 at *
        have HF := Lib.hid (fun k a b s => hA.fin (n := .mk 3 A B []) (v := node4 3 A B (.slice none 0 0)) (leaf HS3.out.1 HS3.out.2) k a b s)
        have hb2 := hA.res
        have hb3 := Box4.set (k' := 3) (a' := A) (b' := B) (s' := .slice none 0 0) hb2
        obtain ⟨d0, d1, d2, d3⟩ := hb2.cells
        have hfz := fun i => Lib.frozen_of_heap hb2 i
        have f0 := hfz 0
        have f1 := hfz 1
        have f2 := hfz 2
        have f3 := hfz 3
        have HG := Lib.hid hb3.cells
        clear hA hb2 hb3 hfz HZ HS3
        go_wp2_with fail
        obtain ⟨g0, g1, g2, g3⟩ := HG.out
        unfold setN at g0 g1 g2 g3
        exact bodyPost_ret (v := node4 3 A B (.slice none 0 0)) (by simp [results, Tryd.results92, go_sem, g0, g1, g2, g3]) rfl ⟨_, rfl, by rw [HQ4.out]; exact HF.out 3 A B (.slice none 0 0)⟩
      · have HQ4 := Lib.hid (HQ3.out.trans (if_neg h5))
        rw [if_neg h5, decide_eq_false h5] at hT
        have HT := Lib.hid hT
        clear hT h5 HQ3
        generalize (word s).2 = s3 at *
        generalize (word s).1 = A at *
        refine HT.out.mono ?_
        rintro e w4 ⟨rfl, h1, h2⟩
        have hA := HA3.out.turn h1 h2
        clear h1 h2 HT HA3
        have HF := Lib.hid (fun k a b s => hA.fin (n := .mk 2 A none0 []) (v := node4 2 A none0 (.slice none 0 0)) (leaf HS2.out.1 (by decide)) k a b s)
        have hb2 := hA.res
        have hb3 := Box4.set (k' := 2) (a' := A) (b' := ⟨#[]⟩) (s' := .slice none 0 0) hb2
        obtain ⟨d0, d1, d2, d3⟩ := hb2.cells
        have hfz := fun i => Lib.frozen_of_heap hb2 i
        have f0 := hfz 0
        have f1 := hfz 1
        have f2 := hfz 2
        have f3 := hfz 3
        have HG := Lib.hid hb3.cells
        clear hA hb2 hb3 hfz HZ HS2
        go_wp2_with fail
        obtain ⟨g0, g1, g2, g3⟩ := HG.out
        unfold setN at g0 g1 g2 g3
        exact bodyPost_ret (v := node4 2 A none0 (.slice none 0 0)) (by simp [results, Tryd.results92, go_sem, g0, g1, g2, g3, none0]) rfl ⟨_, rfl, by rw [HQ4.out]; exact HF.out 2 A ⟨#[]⟩ (.slice none 0 0)⟩
/-- What brackets stands on. -/
theorem open_set {c : Ctx} {o o' : Nat} {s : St} {x : World} (h : Rd c o s x) : Rd c o' s (x.setCell ⟨c.R, 3, none⟩ (.int .i64 (o' : Nat))) := by
  obtain ⟨ao, cap, hb, h1, h2⟩ := h.box
  exact ⟨⟨ao, cap, rdb_open hb o', h1, h2⟩, h.suf, h.env.own (set_turns x 3 _)⟩
theorem Rd.opn {c : Ctx} {o : Nat} {s : St} {x : World} (h : Rd c o s x) : x.cell? ⟨c.R, 3, none⟩ = some (.int .i64 (o : Nat)) ∧ x.frozen? ⟨c.R, 3, none⟩ = false := by
  obtain ⟨ao, cap, hb, -⟩ := h.box
  exact ⟨(rdb_cells hb).2.2.2.1, rdb_free hb 3⟩
set_option maxHeartbeats 4000000 in
set_option maxRecDepth 100000 in
theorem deep_any {c : Ctx} {s : St} {x : World} (h : Rd c 8 s x) :
    Calls Tryd.prog 99 #[.pointer (some ⟨c.R, 0, none⟩)] x (Out nodeE c 8 (brk 0 s) x) := by
  have al : Below x.heap.size x (x.alloc (.cells #[.int .i64 0, .string ⟨#[]⟩, .string ⟨#[]⟩, .slice none 0 0] 25)) := (Below.refl _ _).alloc (Nat.le_refl _) _
  have hA : At c 8 x s (x.alloc (.cells #[.int .i64 0, .string ⟨#[]⟩, .string ⟨#[]⟩, .slice none 0 0] 25)) := ⟨h.below al, Box4.new x _ _ _ _, Turns.of_below al, h.lt⟩
  have HA := Lib.hid hA
  obtain ⟨c3, -⟩ := hA.rd.opn
  have g1 := hA.rd.g1
  have hC := fail_any hA.rd (n := 12) (by decide)
  have HQ := Lib.hid (show brk 0 s = (.mk 0 none0 none0 [], fail s 12) from rfl)
  clear h al hA
  generalize brk 0 s = res at *
  go_enter Tryd.func99, Tryd.ntmps99
  go_wp2_with fail
  have HC := Lib.hid hC
  clear hC
  generalize x.alloc (.cells #[.int .i64 0, .string ⟨#[]⟩, .string ⟨#[]⟩, .slice none 0 0] 25) = w1 at *
  refine HC.out.mono ?_
  rintro e w2 ⟨rfl, h1, h2⟩
  have hA := HA.out.turn h1 h2
  have HF := Lib.hid (fun k a b s => hA.fin (n := .mk 0 none0 none0 []) (v := node4 0 none0 none0 (.slice none 0 0)) (leaf (by decide) (by decide)) k a b s)
  have hb2 := hA.res
  have hb3 := Box4.set (k' := 0) (a' := ⟨#[]⟩) (b' := ⟨#[]⟩) (s' := .slice none 0 0) hb2
  obtain ⟨d0, d1, d2, d3⟩ := hb2.cells
  have hfz := fun i => Lib.frozen_of_heap hb2 i
  have f0 := hfz 0
  have f1 := hfz 1
  have f2 := hfz 2
  have f3 := hfz 3
  have HG := Lib.hid hb3.cells
  clear hA hb2 hb3 hfz HA HC h1 h2 c3 g1
  go_wp2_with fail
  obtain ⟨g0, g1, g2, g3⟩ := HG.out
  unfold setN at g0 g1 g2 g3
  exact bodyPost_ret (v := node4 0 none0 none0 (.slice none 0 0)) (by simp [results, Tryd.results99, go_sem, g0, g1, g2, g3, none0]) rfl ⟨_, rfl, by rw [HQ.out]; exact HF.out 0 ⟨#[]⟩ ⟨#[]⟩ (.slice none 0 0)⟩
/-- A node of a box, above the result's. -/
structure Bx (x : World) (n : Nd) (R3 : Nat) (ns : Value) (w : World) : Prop where
  box : Box4 R3 n.kind n.ta n.tb ns w
  node : NodeS (fun g => x.heap.size + 1 ≤ g) w n (node4 n.kind n.ta n.tb ns)
  low : x.heap.size < R3
theorem Bx.turn {c : Ctx} {x : World} {n : Nd} {R3 : Nat} {ns : Value} {w y : World} (h : Bx x n R3 ns w) (hR : c.R < x.heap.size) (ht : Turns (fun k => k = c.R) w y) : Bx x n R3 ns y :=
  ⟨(ht.block _ h.box.lt (by have := h.low; omega)).trans h.box, h.node.turn ht (fun g hg _ e => by omega) fun g hg _ => hg, h.low⟩
set_option maxHeartbeats 4000000 in
set_option maxRecDepth 100000 in
theorem brackets_any {c : Ctx} {o : Nat} {d : Nat} (hu : ∀ s x, Rd c (o + 1) s x → Calls Tryd.prog 20 #[.pointer (some ⟨c.R, 0, none⟩)] x (Out nodeE c (o + 1) (unionOf (brk d) s) x)) (ho : o < 8) {s : St} {x : World} (h : Rd c o s x) :
    Calls Tryd.prog 99 #[.pointer (some ⟨c.R, 0, none⟩)] x (Out nodeE c o (brk (d + 1) s) x) := by
  have al : Below x.heap.size x (x.alloc (.cells #[.int .i64 0, .string ⟨#[]⟩, .string ⟨#[]⟩, .slice none 0 0] 25)) := (Below.refl _ _).alloc (Nat.le_refl _) _
  have hz : (x.alloc (.cells #[.int .i64 0, .string ⟨#[]⟩, .string ⟨#[]⟩, .slice none 0 0] 25)).heap.size = x.heap.size + 1 := by simp
  have HZ := Lib.hid hz
  have hA : At c o x s (x.alloc (.cells #[.int .i64 0, .string ⟨#[]⟩, .string ⟨#[]⟩, .slice none 0 0] 25)) := ⟨h.below al, Box4.new x _ _ _ _, Turns.of_below al, h.lt⟩
  have HA := Lib.hid hA
  have HU := Lib.hid hu
  obtain ⟨c3, -⟩ := hA.rd.opn
  have hC := need_any hA.rd 40 (by decide)
  have HQ := Lib.hid (show brk (d + 1) s = ((unionOf (brk d) (need s 40)).1, need (unionOf (brk d) (need s 40)).2 41) from rfl)
  have e8 : ((o : Int) == 8) = false := by simp; omega
  clear h al hA hu hz
  generalize brk (d + 1) s = res at *
  go_enter Tryd.func99, Tryd.ntmps99
  go_wp2_with fail
  have HC := Lib.hid hC
  clear hC e8 c3
  generalize x.alloc (.cells #[.int .i64 0, .string ⟨#[]⟩, .string ⟨#[]⟩, .slice none 0 0] 25) = w1 at *
  refine HC.out.mono ?_
  rintro e w2 ⟨rfl, h1, h2⟩
  obtain ⟨c3, f3⟩ := h1.opn
  have hA := (HA.out.turn h1 h2).turn (open_set (o' := o + 1) h1) (set_turns w2 3 _)
  have HA2 := Lib.hid (And.intro hA (show w1.heap.size ≤ (w2.setCell ⟨c.R, 3, none⟩ (.int .i64 ((o + 1 : Nat) : Int))).heap.size by have := h2.size; simpa [World.setCell] using this))
  have hw : IntKind.wrap .i64 ((o : Int) + 1) = ((o + 1 : Nat) : Int) := by
    rw [IntKind.wrap_i64] <;> omega
  have e1 : ((o + 1 : Nat) : Int) = (o : Int) + 1 := by omega
  rw [e1] at HA2
  clear h1 h2 hA HA HC e1
  generalize need s 40 = s1 at *
  go_wp2_with fail
  have HC := Lib.hid (HU.out s1 _ HA2.out.1.rd)
  clear hw c3 f3 HU
  generalize w2.setCell ⟨c.R, 3, none⟩ (.int .i64 ((o : Int) + 1)) = w3 at *
  clear w2
  refine HC.out.mono ?_
  rintro e y ⟨v, rfl, hv, h1, h2⟩
  have hv' : NodeS (fun g => w3.heap.size ≤ g) y (unionOf (brk d) s1).1 v := hv
  obtain ⟨no, nc, us, rfl, -⟩ := hv'.open
  have al : Below y.heap.size y (y.alloc (.cells #[.int .i64 (unionOf (brk d) s1).1.kind, .string (unionOf (brk d) s1).1.ta, .string (unionOf (brk d) s1).1.tb, .slice no (unionOf (brk d) s1).1.kids.length nc] 25)) := (Below.refl _ _).alloc (Nat.le_refl _) _
  have hA := (HA2.out.1.turn h1 h2).turn (h1.below al) (Turns.of_below al)
  have hB : Bx x (unionOf (brk d) s1).1 y.heap.size (.slice no (unionOf (brk d) s1).1.kids.length nc) (y.alloc (.cells #[.int .i64 (unionOf (brk d) s1).1.kind, .string (unionOf (brk d) s1).1.ta, .string (unionOf (brk d) s1).1.tb, .slice no (unionOf (brk d) s1).1.kids.length nc] 25)) :=
    ⟨Box4.new y _ _ _ _, hv'.turn (Turns.of_below (F := fun _ => False) al) (fun _ _ _ h => h) fun g hg _ => by have := HA2.out.2; have := HZ.out; omega, by have := h2.size; have := HA2.out.2; have := HZ.out; omega⟩
  have HA3 := Lib.hid (And.intro hA hB)
  clear hv hv' h1 h2 al hA hB HC HA2 HZ
  generalize unionOf (brk d) s1 = r at *
  obtain ⟨n, s2⟩ := r
  simp only at *
  go_wp2_with fail
  generalize y.heap.size = R3 at *
  generalize y.alloc (.cells #[.int .i64 n.kind, .string n.ta, .string n.tb, .slice no n.kids.length nc] 25) = w4 at *
  clear y
  have hC := need_any HA3.out.1.rd 41 (by decide)
  refine hC.mono ?_
  rintro e w5 ⟨rfl, h1, h2⟩
  obtain ⟨c3, f3⟩ := h1.opn
  have hw : IntKind.wrap .i64 (((o + 1 : Nat) : Int) - 1) = (o : Int) := by
    rw [IntKind.wrap_i64] <;> omega
  have hA := (HA3.out.1.turn h1 h2).turn (open_set (o' := o) h1) (set_turns w5 3 _)
  have hB := (HA3.out.2.turn HA3.out.1.low h2).turn HA3.out.1.low (set_turns w5 3 (.int .i64 (o : Nat)))
  have HF := Lib.hid (fun k a b s => hA.fin hB.node k a b s)
  have hb2 := hA.res
  have hb3 := Box4.set (k' := n.kind) (a' := n.ta) (b' := n.tb) (s' := .slice no n.kids.length nc) hb2
  obtain ⟨d0, d1, d2, d3⟩ := hb2.cells
  obtain ⟨e0, e1, e2, e3⟩ := hB.box.cells
  have hfz := fun i => Lib.frozen_of_heap hb2 i
  have f0 := hfz 0
  have f1 := hfz 1
  have f2 := hfz 2
  have f4 := hfz 3
  have HG := Lib.hid hb3.cells
  clear hA hB hb2 hb3 hfz HA3 hC h1 h2
  generalize need s2 41 = s3 at *
  go_wp2_with fail
  obtain ⟨g0, g1, g2, g3⟩ := HG.out
  unfold setN at g0 g1 g2 g3
  exact bodyPost_ret (v := node4 n.kind n.ta n.tb (.slice no n.kids.length nc)) (by simp [results, Tryd.results99, go_sem, g0, g1, g2, g3]) rfl ⟨_, rfl, by rw [HQ.out]; exact HF.out n.kind n.ta n.tb (.slice no n.kids.length nc)⟩
/-- Brackets, wherever the first of them stands. -/
theorem union_any' {c : Ctx} {o : Nat} {br : P} (hf : Fine br) (hb : ∀ s x, Rd c o s x → next s = 40 → Calls Tryd.prog 99 #[.pointer (some ⟨c.R, 0, none⟩)] x (Out nodeE c o (br s) x)) :
    ∀ s x, Rd c o s x → Calls Tryd.prog 20 #[.pointer (some ⟨c.R, 0, none⟩)] x (Out nodeE c o (unionOf br s) x) :=
  fun _ _ h => union_any ⟨enter_meet, fun _ _ h => meet_any ⟨enter_less, fun _ _ h => less_any (fun _ _ h => atom_any hb h) h⟩ hf h⟩ hf h
theorem union_at {c : Ctx} : ∀ (d o : Nat), o + d = 8 → ∀ s x, Rd c o s x → Calls Tryd.prog 20 #[.pointer (some ⟨c.R, 0, none⟩)] x (Out nodeE c o (unionOf (brk d) s) x)
  | 0, o, ho => by
    obtain rfl : o = 8 := by omega
    exact union_any' (brk_fine 0) fun s x h _ => deep_any h
  | d + 1, o, ho => union_any' (brk_fine (d + 1)) fun s x h _ => brackets_any (fun s x h => union_at d (o + 1) (by omega) s x h) (by omega) h
theorem union_part (c : Ctx) : Part nodeE c 0 20 union := ⟨enter_union, fun s x h => union_at 8 0 rfl s x h⟩
end Gr
end Go.Proofs.YtbphmaoomnocmaaDoor
