/-
  Layer 5 (tract): through: a node and all within it are shown to a function.
-/
import Derived.Test.YtopncohhagebbaaGreatDoorMgMem
import Derived.Test.YtopncohhagebbaaGreatDoorTrMem
import Derived.Deep.LoopGhost
namespace Go.Proofs.YtopncohhagebbaaGreatDoor
open Go.RowKit
namespace Tr
open Knot (Turns NewRow)

set_option maxRecDepth 100000 in
theorem spots : ∃ i z b, IsElem Tryz.prog 249 248 i z 5 b ∧ b ≤ 100 := by
  refine ⟨_, _, _, ⟨by kernel_rfl, rfl, rfl, by kernel_rfl, rfl, by kernel_rfl, by omega⟩, ?_⟩
  exact of_decide_eq_true (by kernel_rfl)
abbrev fnv (f : FuncId) (cap : Array Value) : Value := .func (.func f) #[] cap
structure Shows (W : World) (B : Nat) (F : Nat → Prop) (f : FuncId) (cap : Array Value) {σ : Type} (St : Nat → σ → World → Prop) (go : σ → Nd → Nat → Bool) (stp : σ → Nd → Nat → σ) : Prop where
  enter : ∀ args x, (callFunc f args).run Tryz.prog x = .ok (.enter f args) x
  low : ∀ k, F k → W.heap.size ≤ k ∧ k < B
  keep : ∀ m s x y, St m s x → B ≤ x.heap.size → Below B x y → St m s y
  see : ∀ m s x n v d, St (m + 1) s x → IsNode x n v → d ≤ 1000 → Calls Tryz.prog f (#[v, .int .i64 (d : Nat)] ++ cap) x fun e y => e = .returned (.bool (go s n d)) ∧ St m (stp s n d) y ∧ Turns F x y

abbrev Ent := Nd × Nat × Value
def cellsE (p : Ent) : List Value := p.2.2.cells.toList ++ [.int .i64 (p.2.1 : Nat)]
def cellsL (L : List Ent) : List Value := L.flatMap cellsE
def stack (L : List Ent) : List (Nd × Nat) := (L.map fun p => (p.1, p.2.1)).reverse
theorem stack_append (L : List Ent) (p : Ent) : stack (L ++ [p]) = (p.1, p.2.1) :: stack L := by simp [stack]
theorem cellsL_append (L M : List Ent) : cellsL (L ++ M) = cellsL L ++ cellsL M := by simp [cellsL]
def AllN (W : World) (L : List Ent) : Prop := ∀ p ∈ L, IsNode W p.1 p.2.2
theorem cellsE_len {W : World} {p : Ent} (h : IsNode W p.1 p.2.2) : (cellsE p).length = 5 := by
  obtain ⟨ao, cap, vs, hv, -⟩ := h.open
  rw [cellsE, hv]
  rfl
theorem cellsL_len {W : World} : ∀ {L : List Ent}, AllN W L → (cellsL L).length = L.length * 5
  | [], _ => rfl
  | p :: L, h => by
    have h1 := cellsE_len (h p (List.mem_cons_self ..))
    have h2 := cellsL_len (L := L) fun q hq => h q (List.mem_cons_of_mem _ hq)
    rw [cellsL] at h2 ⊢
    rw [List.flatMap_cons, List.length_append, h1, h2, List.length_cons]
    omega
theorem tot_len (L : List Ent) : L.length ≤ tot (stack L) := by
  have := sizes_len ((stack L).map Prod.fst)
  rw [tot]
  simp [stack] at this ⊢
  exact this

theorem elemS : Tryz.prog.underlying 249 = some (.slice (Tryz.prog.elem 249)) := by kernel_rfl
theorem sizeS : ∀ w, (sizeOf (Tryz.prog.elem 249)).run Tryz.prog w = .ok 5 w := fun w => by kernel_rfl
theorem last_at {g n cap : Nat} (_hn : n + 1 ≤ cap) : ∀ W, (Instr.indexAt 249 (.slice (some ⟨g, 0, none⟩) (n + 1) cap) (.int .i64 (n : Int))).run Tryz.prog W = .ok (.pointer (some ⟨g, n * 5, none⟩)) W := fun W => by
  rw [run_indexAt_slice W _ _ _ _ _ _ elemS, if_pos ⟨by omega, by omega⟩, sizeS]
  have e : ((n : Int)).toNat = n := by omega
  simp only [Result.andThen_ok, e, Addr.add_lit, Nat.zero_add]

def Box5 (R : Nat) (k : Int) (a b : ByteArray) (u : Value) (d : Nat) (x : World) : Prop := x.heap[R]? = some (.cells #[.int .i64 k, .string a, .string b, u, .int .i64 (d : Nat)] 248 (0, 0))
section
variable {R : Nat} {k : Int} {a b : ByteArray} {u : Value} {d : Nat} {x y : World}
theorem Box5.lt (h : Box5 R k a b u d x) : R < x.heap.size := (Array.getElem?_eq_some_iff.1 h).1
theorem Box5.cells (h : Box5 R k a b u d x) : x.cell? ⟨R, 0, none⟩ = some (.int .i64 k) ∧ x.cell? ⟨R, 1, none⟩ = some (.string a) ∧ x.cell? ⟨R, 2, none⟩ = some (.string b) ∧ x.cell? ⟨R, 3, none⟩ = some u ∧ x.cell? ⟨R, 4, none⟩ = some (.int .i64 (d : Nat)) :=
  ⟨by rw [Lib.cell_of_heap h]; rfl, by rw [Lib.cell_of_heap h]; rfl, by rw [Lib.cell_of_heap h]; rfl, by rw [Lib.cell_of_heap h]; rfl, by rw [Lib.cell_of_heap h]; rfl⟩
theorem Box5.turn {F : Nat → Prop} (h : Box5 R k a b u d x) (ht : Turns F x y) (hF : ¬ F R) : Box5 R k a b u d y := (ht.block R h.lt hF).trans h
theorem Box5.on (h : Box5 R k a b u d x) (hb : Below x.heap.size x y) : Box5 R k a b u d y := (hb.block R h.lt).trans h
end
theorem new_cells (w : World) (T : TypeId) (cs : List Value) {b : Nat} (hb : b = w.heap.size) : ∀ j u, cs[j]? = some u → (w.alloc (.cells cs.toArray T)).cell? ((⟨b, 0, none⟩ : Addr).add j) = some u := by
  subst hb
  intro j u hj
  rw [addp, Nat.zero_add, Lib.cell_of_heap (heap_alloc_new w _)]
  simpa using hj

def ents (l : List Nd) (vs : List Value) (d j : Nat) : List Ent := ((l.zip vs).take j).map fun p => (p.1, d + 1, p.2)
theorem ents_succ {l : List Nd} {vs : List Value} {d j : Nat} {u : Value} (h : j < l.length) (hu : vs[j]? = some u) : ents l vs d (j + 1) = ents l vs d j ++ [(l[j], d + 1, u)] := by
  obtain ⟨hj, hu'⟩ := List.getElem?_eq_some_iff.1 hu
  have hz : j < (l.zip vs).length := by rw [List.length_zip]; omega
  rw [ents, List.take_succ_eq_append_getElem hz, List.map_append, ents]
  simp [List.getElem_zip, hu']
theorem ents_stack {l : List Nd} {vs : List Value} {d : Nat} (h : vs.length = l.length) (L : List Ent) (m : Nd) (hm : m.kids = l) : stack (L ++ ents l vs d l.length) = push m d (stack L) := by
  rw [stack, List.map_append, List.reverse_append, push, hm, ents, List.take_of_length_le (by rw [List.length_zip]; omega), List.map_map]
  congr 2
  rw [show ((fun p : Ent => (p.1, p.2.1)) ∘ fun p : Nd × Value => ((p.1, d + 1, p.2) : Ent)) = (fun x : Nd => (x, d + 1)) ∘ Prod.fst from rfl, ← List.map_map, List.map_fst_zip (by omega)]
theorem ents_len {l : List Nd} {vs : List Value} {d j : Nat} (h : vs.length = l.length) (hj : j ≤ l.length) : (ents l vs d j).length = j := by
  rw [ents, List.length_map, List.length_take, List.length_zip]; omega
theorem ents_all {W : World} {l : List Nd} {vs : List Value} {d : Nat} (h : IsNodes W l vs) : ∀ j, j ≤ l.length → AllN W (ents l vs d j)
  | 0, _ => fun p hp => by simp [ents] at hp
  | j + 1, hj => fun p hp => by
    obtain ⟨u, hu, hn⟩ := h.at (i := j) (by omega)
    rw [ents_succ (by omega) hu] at hp
    rcases List.mem_append.1 hp with hp | hp
    · exact ents_all h j (by omega) p hp
    · rw [List.mem_singleton] at hp
      subst hp
      exact hn
theorem ents_deep {l : List Nd} {vs : List Value} {d : Nat} : ∀ j, ∀ p ∈ ents l vs d j, p.2.1 = d + 1 := fun j p hp => by
  rw [ents, List.mem_map] at hp
  obtain ⟨q, -, rfl⟩ := hp
  rfl

structure Thr (W w : World) (F : Nat → Prop) {σ : Type} (St : Nat → σ → World → Prop) (R : Bool × σ) (go : σ → Nd → Nat → Bool) (stp : σ → Nd → Nat → σ) (k : Nat) (rv : Value) (L : List Ent) (s : σ) (x : World) : Prop where
  all : AllN W L
  tot : tot (stack L) = k
  deep : ∀ p ∈ L, p.2.1 + k ≤ 901
  own : x.ownsRow w.heap.size 248 5 rv L.length (cellsL L)
  st : St k s x
  run : run go stp k (stack L) s = R
  turns : Turns F w x

structure Inn (w : World) (F : Nat → Prop) {σ : Type} (St : Nat → σ → World → Prop) (X : Nat) (m : Nd) (d : Nat) (mv : Value) (L : List Ent) (vs : List Value) (k : Nat) (s : σ) (j : Nat) (rv : Value) (x : World) : Prop where
  own : x.ownsRow w.heap.size 248 5 rv (L.length + j) (cellsL (L ++ ents m.kids vs d j))
  box : Box5 X m.kind m.ta m.tb mv d x
  apart : rv.ownBlock ≠ some X
  st : St k s x
  turns : Turns F w x

set_option maxHeartbeats 4000000 in
set_option maxRecDepth 100000 in
theorem through_any {W : World} {F : Nat → Prop} {f : FuncId} {cap : Array Value} {σ : Type} {St : Nat → σ → World → Prop} {go : σ → Nd → Nat → Bool} {stp : σ → Nd → Nat → σ} (n : Nd) (v : Value) (s : σ) (w : World)
    (hs : Shows W w.heap.size F f cap St go stp) (hW : Below W.heap.size W w) (hn : IsNode W n v) (hz : size n ≤ 900) (hst : St (size n) s w) :
    Calls Tryz.prog 132 #[v, fnv f cap] w fun e y => e = .returned (.bool (run go stp (size n) [(n, 1)] s).1) ∧ (∃ m, St m (run go stp (size n) [(n, 1)] s).2 y) ∧ Turns F w y := by
  obtain ⟨ao, cp, vs, rfl, -, -⟩ := hn.kids
  have HE := hs.enter
  have HS := Lib.hid hs
  have HW := Lib.hid (And.intro hW hn)
  have HT := Lib.hid hst
  clear hs hW hn hst
  go_enter Tryz.func132, Tryz.ntmps132
  go_wp2_with fail
  go_loopg [5] (size n) (fun k rv wr => ∃ L s', Hid (Thr W w F St (run go stp (size n) [(n, 1)] s) go stp k rv L s' wr))
  case atStart =>
    have hb : Below w.heap.size w ((w.alloc (.cells #[.int .i64 n.kind, .string n.ta, .string n.tb, .slice ao n.kids.length cp] 47)).alloc (.cells #[.int .i64 n.kind, .string n.ta, .string n.tb, .slice ao n.kids.length cp, .int .i64 1] 248)) :=
      ((Below.refl _ _).alloc (Nat.le_refl _) _).alloc (by simp) _
    refine ⟨[(n, 1, node4 n.kind n.ta n.tb (.slice ao n.kids.length cp))], s, Lib.hid ⟨?_, ?_, ?_, ?_, HS.out.keep _ _ _ _ HT.out (Nat.le_refl _) hb, rfl, Turns.of_below hb⟩⟩
    · intro p hp
      rw [List.mem_singleton] at hp
      subst hp
      exact HW.out.2
    · simp [stack, tot, sizes]
    · intro p hp
      rw [List.mem_singleton] at hp
      subst hp
      show 1 + size n ≤ 901
      omega
    · refine ⟨rfl, .inr ⟨w.heap.size + 1, 1, #[.int .i64 n.kind, .string n.ta, .string n.tb, .slice ao n.kids.length cp, .int .i64 1], rfl, by omega, ?_, Nat.le_refl _, by unfold maxLen; omega, rfl, rfl⟩⟩
      have := heap_alloc_new (w.alloc (.cells #[.int .i64 n.kind, .string n.ta, .string n.tb, .slice ao n.kids.length cp] 47)) (.cells #[.int .i64 n.kind, .string n.ta, .string n.tb, .slice ao n.kids.length cp, .int .i64 1] 248)
      simpa using this
  case round =>
    obtain ⟨L, s', HH⟩ := hrel
    clear HT
    rcases List.eq_nil_or_concat L with rfl | ⟨L', ⟨m, d, u⟩, rfl⟩
    · obtain ⟨ro, rc, hv⟩ := own_slice HH.out.own
      have hR : run go stp (size n) [(n, 1)] s = (true, s') := by
        have h1 := HH.out.run
        have h2 := HH.out.tot
        rw [show stack [] = [] from rfl] at h1 h2
        rw [show tot [] = 0 from rfl] at h2
        subst h2
        exact h1.symm
      have HR := Lib.hid hR
      clear hR
      subst hv
      go_wp2_with fail
      go_ret
      exact ⟨by rw [HR.out]; rfl, ⟨_, by rw [HR.out]; exact HH.out.st⟩, HH.out.turns⟩
    · rw [List.concat_eq_append] at HH
      have h0 := HH.out
      have hmu : IsNode W m u := h0.all (m, d, u) (by simp)
      obtain ⟨mo, mc, vs', rfl, -, hks⟩ := hmu.kids
      have hown := h0.own
      rw [List.length_append, List.length_singleton] at hown
      obtain ⟨g, rc, rfl, hBg, hg, hrc, hce⟩ := own_open hown
      have hcl := cellsL_len (W := W) (L := L') fun p hp => h0.all p (List.mem_append_left _ hp)
      have hcc : ∀ j w', (cellsE (m, d, node4 m.kind m.ta m.tb (.slice mo m.kids.length mc)))[j]? = some w' → wr.cell? ⟨g, L'.length * 5 + j, none⟩ = some w' := fun j w' hj => by
        refine hce _ _ ?_
        rw [cellsL_append, ← hcl, List.getElem?_append_right (by omega), Nat.add_sub_cancel_left]
        simpa [cellsL] using hj
      have c0 := hcc 0 _ rfl
      rw [Nat.add_zero] at c0
      have c1 := hcc 1 _ rfl
      have c2 := hcc 2 _ rfl
      have c3 := hcc 3 _ rfl
      have c4 := hcc 4 _ rfl
      have hix := last_at (g := g) hrc
      have htl := tot_len (L' ++ [(m, d, node4 m.kind m.ta m.tb (.slice mo m.kids.length mc))])
      have hN : L'.length ≤ 900 := by
        have := h0.tot
        have h1 := h0.deep (m, d, node4 m.kind m.ta m.tb (.slice mo m.kids.length mc)) (by simp)
        rw [List.length_append, List.length_singleton] at htl
        omega
      have hk : gk = tot (push m d (stack L')) + 1 := by
        have := tot_push m d (stack L')
        have h1 := h0.tot
        rw [stack_append] at h1
        rw [← h1, ← this]
      have bW : Below W.heap.size W wr := HW.out.1.trans (h0.turns.below HW.out.1.size fun k hk => (HS.out.low k hk).1)
      have hd4 : d ≤ 901 := by
        have h1 := h0.deep (m, d, node4 m.kind m.ta m.tb (.slice mo m.kids.length mc)) (by simp)
        have h2 : d + gk ≤ 901 := h1
        omega
      have hg4 : d + gk ≤ 901 := h0.deep (m, d, node4 m.kind m.ta m.tb (.slice mo m.kids.length mc)) (by simp)
      have hww : w.heap.size ≤ wr.heap.size := h0.turns.size
      have al : Below wr.heap.size wr (wr.alloc (.cells #[.int .i64 m.kind, .string m.ta, .string m.tb, .slice mo m.kids.length mc, .int .i64 (d : Nat)] 248)) := (Below.refl _ _).alloc (Nat.le_refl _) _
      have hC := HS.out.see (tot (push m d (stack L'))) s' (wr.alloc (.cells #[.int .i64 m.kind, .string m.ta, .string m.tb, .slice mo m.kids.length mc, .int .i64 (d : Nat)] 248)) m (node4 m.kind m.ta m.tb (.slice mo m.kids.length mc)) d
        (HS.out.keep _ _ _ _ (hk ▸ h0.st) hww (al.mono hww)) (hmu.below (bW.trans (al.mono bW.size))) (by omega)
      have hrun : run go stp (size n) [(n, 1)] s = if go s' m d then run go stp (tot (push m d (stack L'))) (push m d (stack L')) (stp s' m d) else (false, stp s' m d) := by
        have h1 := h0.run
        rw [stack_append, hk, run] at h1
        exact h1.symm
      have hbx : Box5 wr.heap.size m.kind m.ta m.tb (.slice mo m.kids.length mc) d (wr.alloc (.cells #[.int .i64 m.kind, .string m.ta, .string m.tb, .slice mo m.kids.length mc, .int .i64 (d : Nat)] 248)) := heap_alloc_new wr _
      have hcut : wr.ownsRow w.heap.size 248 5 (.slice (some ⟨g, 0, none⟩) L'.length rc) L'.length (cellsL L') := by
        have h1 := own_cut hown (m := L'.length) (by omega)
        rwa [cellsL_append, ← hcl, List.take_left] at h1
      have hC' := Lib.hid hC
      have HL := Lib.hid (show AllN W L' ∧ (∀ p ∈ L', p.2.1 + gk ≤ 901) from ⟨fun p hp => h0.all p (List.mem_append_left _ hp), fun p hp => h0.deep p (List.mem_append_left _ hp)⟩)
      have HX := Lib.hid (And.intro hbx (And.intro (own_below hcut al) (And.intro (h0.turns.then_below al) (And.intro hk (And.intro hww hBg)))))
      have HR := Lib.hid hrun
      have HK := Lib.hid hks
      clear hcc hce hC hrun hbx hcut al hmu h0 HH hown hks hk htl bW
      generalize hq : L'.length * 5 = q at *
      clear hcl hq
      cases hgo : go s' m d with
      | false =>
        have hr := HR.out
        rw [hgo, if_neg Bool.false_ne_true] at hr
        have HR2 := Lib.hid hr
        rw [hgo] at hC'
        clear HR hr hgo
        go_wp2_with fail
        refine hC'.out.mono ?_
        rintro e y ⟨rfl, hst1, ht1⟩
        go_wp2_with fail
        go_ret
        exact ⟨by rw [HR2.out]; rfl, ⟨_, by rw [HR2.out]; exact hst1⟩, HX.out.2.2.1.trans ht1 fun _ _ h => h⟩
      | true =>
        have hr := HR.out
        rw [hgo, if_pos rfl] at hr
        have HR2 := Lib.hid hr
        rw [hgo] at hC'
        clear HR hr hgo
        go_wp2_with fail
        refine hC'.out.mono ?_
        rintro e y ⟨rfl, hst1, ht1⟩
        have hnF : ∀ k, w.heap.size ≤ k → ¬ F k := fun k hk hf => by have := (HS.out.low k hf).2; omega
        have hb5 := HX.out.1.turn ht1 (hnF _ HX.out.2.2.2.2.1)
        have hI : Inn w F St wr.heap.size m d (.slice mo m.kids.length mc) L' vs' (tot (push m d (stack L'))) (stp s' m d) 0 (.slice (some ⟨g, 0, none⟩) L'.length rc) y :=
          ⟨by rw [Nat.add_zero, show ents m.kids vs' d 0 = [] from rfl, List.append_nil]; exact own_turn HX.out.2.1 ht1 (fun k hk => by obtain rfl : g = k := (by simpa [Value.ownBlock] using hk); exact hnF _ HX.out.2.2.2.2.2),
            hb5, by simp [Value.ownBlock]; omega, hst1, HX.out.2.2.1.trans ht1 fun _ _ h => h⟩
        obtain ⟨b0, b1, b2, b3, b4⟩ := hb5.cells
        have HI := Lib.hid hI
        have HN := Lib.hid hnF
        have HG := Lib.hid HX.out.2.2.2.1
        clear hI hnF hst1 ht1 hb5 HX hC' c0 c1 c2 c3 c4 hix hBg hg hrc
        generalize wr.heap.size = X at *
        clear wr
        go_wp2_with fail
        go_loopw [5, 37] (fun rv i wr => ∃ j : Nat, j ≤ m.kids.length ∧ i = .int .i64 j ∧ Hid (Inn w F St X m d (.slice mo m.kids.length mc) L' vs' (tot (push m d (stack L'))) (stp s' m d) j rv wr)) (fun _ i _ => m.kids.length - (intOf i).toNat)
        case atStart => exact ⟨0, by omega, rfl, HI⟩
        case round =>
          obtain ⟨j, hj, rfl, H1⟩ := hrel
          clear HI b0 b1 b2 b3 b4
          have h1 := H1.out
          obtain ⟨ro, rc', rfl⟩ := own_slice h1.own
          have hXlt := h1.box.lt
          have hsx := h1.turns.size
          by_cases hlt : j < m.kids.length
          · have bx : Below W.heap.size W wr := HW.out.1.trans (h1.turns.below HW.out.1.size fun k hk => (HS.out.low k hk).1)
            obtain ⟨kg, kq, ka, kc, hix, hkg, c0, c1, c2, c3, hku⟩ := (HK.out.below bx).at' mc hlt
            have hes := ents_succ (d := d) hlt hku
            obtain ⟨b0, b1, b2, b3, b4⟩ := h1.box.cells
            have hle := ents_len (d := d) HK.out.2.len hj
            have hjl : j ≤ 900 := by
              have h2 := HL.out
              have h3 := HG.out
              have h4 := sizes_len m.kids
              have h5 : tot (push m d (stack L')) = sizes m.kids + tot (stack L') := by
                have := tot_push m d (stack L')
                have h6 := tot_cons m d (stack L')
                have h7 := size_kids m
                omega
              omega
            have hN2 : (L'.length + j + 1) * 100 ≤ 140737488355328 := by omega
            have al1 : Below wr.heap.size wr (wr.alloc (.cells #[.int .i64 m.kids[j].kind, .string m.kids[j].ta, .string m.kids[j].tb, .slice ka m.kids[j].kids.length kc] 47)) := (Below.refl _ _).alloc (Nat.le_refl _) _
            have al2 : Below wr.heap.size wr ((wr.alloc (.cells #[.int .i64 m.kids[j].kind, .string m.kids[j].ta, .string m.kids[j].tb, .slice ka m.kids[j].kids.length kc] 47)).alloc (.cells [.int .i64 m.kids[j].kind, .string m.kids[j].ta, .string m.kids[j].tb, .slice ka m.kids[j].kids.length kc, .int .i64 ((d : Int) + 1)].toArray 248)) := al1.alloc (by simp) _
            obtain ⟨ti, tz, tb', T, hT⟩ := spots
            have HA := Lib.hid (And.intro (own_below h1.own al2) (And.intro (h1.box.on al2) (And.intro (HS.out.keep _ _ _ _ h1.st hsx (al2.mono hsx)) (h1.turns.then_below al2))))
            have HP := Lib.hid (And.intro h1.apart (And.intro hes (And.intro hle (And.intro hXlt hsx))))
            have HT := Lib.hid (And.intro T hT)
            obtain ⟨-, -, -, -, a4⟩ := (h1.box.on al1).cells
            clear b0 b1 b2 b4
            clear h1 H1 bx hes hle hku al1 al2 T hT hXlt hsx
            go_wp2_with (at_builtin; refine walk_rows HT.out.1 rfl _ _ rfl rfl rfl HA.out.1 (by have := HP.out.2.2.2.2; simp; omega) (m := 1) rfl (new_cells _ _ [.int .i64 m.kids[j].kind, .string m.kids[j].ta, .string m.kids[j].tb, .slice ka m.kids[j].kids.length kc, .int .i64 ((d : Int) + 1)] (by simp)) (by intro u' hu'; simp at hu'; rcases hu' with rfl | rfl | rfl | rfl | rfl <;> rfl) (by omega) (Nat.le_trans (Nat.mul_le_mul_left _ HT.out.2) hN2) ?_)
            intro v2 z o2 g2 n2
            have hXx : X < wr.heap.size := HP.out.2.2.2.1
            have hsx : w.heap.size ≤ wr.heap.size := HP.out.2.2.2.2
            have tg := Turns.of_grown (F := fun k => (Value.slice ro (L'.length + j) rc').ownBlock = some k) g2 fun k hk => hk
            have hrowB : ∀ k, (Value.slice ro (L'.length + j) rc').ownBlock = some k → w.heap.size ≤ k := fun k hk => (HA.out.1.lt k hk).1
            have hI : Inn w F St X m d (.slice mo m.kids.length mc) L' vs' (tot (push m d (stack L'))) (stp s' m d) (j + 1) v2 z := by
              refine ⟨?_, HA.out.2.1.turn tg HP.out.1, fun e => ?_, HS.out.keep _ _ _ _ HA.out.2.2.1 (by simp; omega) (tg.below (by simp; omega) hrowB), HA.out.2.2.2.trans (G := fun k => (Value.slice ro (L'.length + j) rc').ownBlock = some k) tg fun k hk he => by have := hrowB k he; omega⟩
              · rw [HP.out.2.1, ← List.append_assoc, cellsL_append]
                exact o2
              · rcases n2 X e with h | h
                · exact HP.out.1 h
                · simp at h; omega
            have HI2 := Lib.hid hI
            clear hI o2 g2 n2 tg hrowB a4 b3 HA HP HT hXx hsx c0 c1 c2 c3 hix hkg hN2
            go_wp2_with fail
            go_roundw
            case rel => exact ⟨j + 1, by omega, by go_num, HI2⟩
            case measure => simp [intOf]; omega
          · have hj' : j = m.kids.length := by omega
            subst hj'
            have hvl := HK.out.2.len
            have hT : Thr W w F St (run go stp (size n) [(n, 1)] s) go stp (tot (push m d (stack L'))) (.slice ro (L'.length + m.kids.length) rc') (L' ++ ents m.kids vs' d m.kids.length) (stp s' m d) wr := by
              have hes := ents_stack (d := d) hvl L' m rfl
              refine ⟨fun p hp => ?_, by rw [hes], fun p hp => ?_, ?_, h1.st, ?_, h1.turns⟩
              · rcases List.mem_append.1 hp with hp | hp
                · exact HL.out.1 p hp
                · exact ents_all HK.out.2 _ (Nat.le_refl _) p hp
              · have h3 := HG.out
                rcases List.mem_append.1 hp with hp | hp
                · have := HL.out.2 p hp; omega
                · have h4 := ents_deep _ p hp; omega
              · rw [List.length_append, ents_len hvl (Nat.le_refl _)]
                exact h1.own
              · rw [hes]
                exact HR2.out.symm
            have HT2 := Lib.hid hT
            have hlt2 : tot (push m d (stack L')) < gk := by have := HG.out; omega
            clear hT h1 H1 hvl hXlt hsx HL HK HR2 HG
            go_wp2_with fail
            go_roundg (tot (push m d (stack L')))
            case measure => exact hlt2
            case rel => exact ⟨_, _, HT2⟩
end Tr
end Go.Proofs.YtopncohhagebbaaGreatDoor
