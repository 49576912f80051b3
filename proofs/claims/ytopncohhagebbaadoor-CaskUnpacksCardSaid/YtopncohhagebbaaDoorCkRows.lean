/-
  Layer 10 (cask): nodes in new memory: each list of kids lies in a row of its own; relations, types, configurations of such.
-/
import Derived.Test.YtopncohhagebbaaDoorCgB
import Derived.Test.YtopncohhagebbaaDoorGrSameB
namespace Go.Proofs.YtopncohhagebbaaDoor
open Go.RowKit Go.Sort
namespace Ck
open Knot (Turns NewRow Inn At iptr)
open Tr (Nd none0 node4 own_slice RowAt IsNode IsNodes size sizes size_pos sizes_mem)
open Gr (Al Rl Ty Elt RowS allowE relV tyV tAl tRl tTy cellsV cellsV_append cellsV_one IsAl IsRl IsTy IsCf Lies)

mutual
/-- A node that lies in memory, its lists of kids in the blocks G, one each. -/
def NodeR (w : World) : Nd → Value → List Nat → Prop
  | .mk k a b l, v, G => ∃ ao cap vs, v = node4 k a b (.slice ao l.length cap) ∧ (a.size ≤ maxLen ∧ b.size ≤ maxLen) ∧
      ((l = [] ∧ G = []) ∨ (l ≠ [] ∧ ∃ g cur T Gs, ao = some ⟨g, 0, none⟩ ∧ w.heap[g]? = some (.cells cur T (0, 0)) ∧ RowAt w 4 g 0 vs ∧ NodesR w l vs Gs ∧ G = g :: Gs))
def NodesR (w : World) : List Nd → List Value → List Nat → Prop
  | [], vs, G => vs = [] ∧ G = []
  | n :: r, vs, G => ∃ v vr G1 G2, vs = v :: vr ∧ NodeR w n v G1 ∧ NodesR w r vr G2 ∧ G = G1 ++ G2
end
theorem NodesR.len {w : World} : ∀ {l : List Nd} {vs : List Value} {G : List Nat}, NodesR w l vs G → vs.length = l.length
  | [], vs, G, h => by rw [NodesR] at h; rw [h.1]; rfl
  | n :: r, vs, G, h => by
    rw [NodesR] at h
    obtain ⟨v, vr, G1, G2, rfl, -, hr, -⟩ := h
    rw [List.length_cons, List.length_cons, NodesR.len hr]
theorem NodesR.append {w : World} : ∀ {l m : List Nd} {vs us : List Value} {G H : List Nat}, NodesR w l vs G → NodesR w m us H → NodesR w (l ++ m) (vs ++ us) (G ++ H)
  | [], m, vs, us, G, H, h, k => by rw [NodesR] at h; obtain ⟨rfl, rfl⟩ := h; exact k
  | n :: l, m, vs, us, G, H, h, k => by
    rw [NodesR] at h
    obtain ⟨v, vr, G1, G2, rfl, h1, h2, rfl⟩ := h
    rw [List.cons_append, NodesR]
    exact ⟨v, vr ++ us, G1, G2 ++ H, rfl, h1, NodesR.append h2 k, List.append_assoc _ _ _⟩
theorem NodesR.one {w : World} {n : Nd} {v : Value} {G : List Nat} (h : NodeR w n v G) : NodesR w [n] [v] G := by
  rw [NodesR]
  exact ⟨v, [], G, [], rfl, h, by rw [NodesR]; exact ⟨rfl, rfl⟩, (List.append_nil _).symm⟩
theorem NodeR.on {w x : World} : ∀ (k : Nat) (n : Nd) (v : Value) (G : List Nat), size n ≤ k → NodeR w n v G → (∀ g ∈ G, x.heap[g]? = w.heap[g]?) → NodeR x n v G
  | 0, n, _, _, h, _, _ => by have := size_pos n; omega
  | k + 1, .mk q a b l, v, G, h, hn, hG => by
    rw [NodeR] at hn ⊢
    obtain ⟨ao, cap, vs, rfl, hs, h1⟩ := hn
    refine ⟨ao, cap, vs, rfl, hs, ?_⟩
    rcases h1 with h1 | ⟨hl, g, cur, T, Gs, e, hg, hr, hk, rfl⟩
    · exact .inl h1
    · have hg' : x.heap[g]? = w.heap[g]? := hG g (List.mem_cons_self ..)
      refine .inr ⟨hl, g, cur, T, Gs, e, hg'.trans hg, fun i u hu => ?_, ?_, rfl⟩
      · obtain ⟨h2, h3⟩ := hr i u hu
        exact ⟨h2, fun j z hj => (World.cell?_of_block (w := w) (a := ⟨g, 0 + i * 4 + j, none⟩) hg').trans (h3 j z hj)⟩
      · have hl' : ∀ (m : List Nd) (us : List Value) (H : List Nat), (∀ n ∈ m, size n ≤ k) → (∀ g ∈ H, x.heap[g]? = w.heap[g]?) → NodesR w m us H → NodesR x m us H := by
          intro m
          induction m with
          | nil => intro us H _ _ h; rw [NodesR] at h ⊢; exact h
          | cons n r ih =>
            intro us H hm hH h
            rw [NodesR] at h ⊢
            obtain ⟨v, vr, G1, G2, e1, h1, h2, e2⟩ := h
            subst e2
            exact ⟨v, vr, G1, G2, e1, NodeR.on k n v G1 (hm n (List.mem_cons_self ..)) h1 fun g hg => hH g (List.mem_append_left _ hg), ih vr G2 (fun n hn => hm n (List.mem_cons_of_mem _ hn)) (fun g hg => hH g (List.mem_append_right _ hg)) h2, rfl⟩
        refine hl' l vs Gs (fun n hn => ?_) (fun g hg => hG g (List.mem_cons_of_mem _ hg)) hk
        have := sizes_mem hn
        rw [size] at h
        omega
theorem NodesR.on {w x : World} : ∀ {l : List Nd} {vs : List Value} {G : List Nat}, NodesR w l vs G → (∀ g ∈ G, x.heap[g]? = w.heap[g]?) → NodesR x l vs G
  | [], vs, G, h, _ => by rw [NodesR] at h ⊢; exact h
  | n :: r, vs, G, h, hG => by
    rw [NodesR] at h ⊢
    obtain ⟨v, vr, G1, G2, e1, h1, h2, e2⟩ := h
    subst e2
    exact ⟨v, vr, G1, G2, e1, NodeR.on _ n v G1 (Nat.le_refl _) h1 fun g hg => hG g (List.mem_append_left _ hg), NodesR.on h2 fun g hg => hG g (List.mem_append_right _ hg), rfl⟩
theorem NodeR.lt {w : World} : ∀ (k : Nat) (n : Nd) (v : Value) (G : List Nat), size n ≤ k → NodeR w n v G → ∀ g ∈ G, ∃ cur T, w.heap[g]? = some (.cells cur T (0, 0))
  | 0, n, _, _, h, _ => by have := size_pos n; omega
  | k + 1, .mk q a b l, v, G, h, hn => by
    rw [NodeR] at hn
    obtain ⟨ao, cap, vs, rfl, hs, h1⟩ := hn
    rcases h1 with ⟨-, rfl⟩ | ⟨hl, g, cur, T, Gs, e, hg, hr, hk, rfl⟩
    · intro g hg; cases hg
    · intro g' hg'
      rcases List.mem_cons.1 hg' with rfl | hg'
      · exact ⟨cur, T, hg⟩
      · have hl' : ∀ (m : List Nd) (us : List Value) (H : List Nat), (∀ n ∈ m, size n ≤ k) → NodesR w m us H → ∀ g ∈ H, ∃ cur T, w.heap[g]? = some (.cells cur T (0, 0)) := by
          intro m
          induction m with
          | nil => intro us H _ h g hg; rw [NodesR] at h; rw [h.2] at hg; cases hg
          | cons n r ih =>
            intro us H hm h g hg
            rw [NodesR] at h
            obtain ⟨v, vr, G1, G2, e1, h1, h2, e2⟩ := h
            subst e2
            rcases List.mem_append.1 hg with hg | hg
            · exact NodeR.lt k n v G1 (hm n (List.mem_cons_self ..)) h1 g hg
            · exact ih vr G2 (fun n hn => hm n (List.mem_cons_of_mem _ hn)) h2 g hg
        refine hl' l vs Gs (fun n hn => ?_) hk g' hg'
        have := sizes_mem hn
        rw [size] at h
        omega
theorem NodesR.lt {w : World} : ∀ {l : List Nd} {vs : List Value} {G : List Nat}, NodesR w l vs G → ∀ g ∈ G, g < w.heap.size
  | [], vs, G, h => by rw [NodesR] at h; intro g hg; rw [h.2] at hg; cases hg
  | n :: r, vs, G, h => by
    rw [NodesR] at h
    obtain ⟨v, vr, G1, G2, e1, h1, h2, e2⟩ := h
    subst e2
    intro g hg
    rcases List.mem_append.1 hg with hg | hg
    · obtain ⟨cur, T, h3⟩ := NodeR.lt _ n v G1 (Nat.le_refl _) h1 g hg
      exact (Array.getElem?_eq_some_iff.1 h3).1
    · exact NodesR.lt h2 g hg
theorem NodeR.open {w : World} {n : Nd} {v : Value} {G : List Nat} (h : NodeR w n v G) : ∃ ao cap vs, v = node4 n.kind n.ta n.tb (.slice ao n.kids.length cap) ∧ (n.ta.size ≤ maxLen ∧ n.tb.size ≤ maxLen) ∧
    ((n.kids = [] ∧ G = []) ∨ (n.kids ≠ [] ∧ ∃ g cur T Gs, ao = some ⟨g, 0, none⟩ ∧ w.heap[g]? = some (.cells cur T (0, 0)) ∧ RowAt w 4 g 0 vs ∧ NodesR w n.kids vs Gs ∧ G = g :: Gs)) := by
  cases n
  rw [NodeR] at h
  exact h
theorem NodeR.is {w : World} : ∀ (k : Nat) (n : Nd) (v : Value) (G : List Nat), size n ≤ k → NodeR w n v G → IsNode w n v
  | 0, n, _, _, h, _ => by have := size_pos n; omega
  | k + 1, .mk q a b l, v, G, h, hn => by
    rw [NodeR] at hn
    rw [IsNode]
    obtain ⟨ao, cap, vs, rfl, hs, h1⟩ := hn
    rcases h1 with ⟨rfl, -⟩ | ⟨hl, g, cur, T, Gs, e, hg, hr, hk, rfl⟩
    · exact ⟨ao, cap, [], rfl, hs, fun h => absurd rfl h, by rw [IsNodes]⟩
    · refine ⟨ao, cap, vs, rfl, hs, fun _ => ⟨g, 0, e, hr⟩, ?_⟩
      have hl' : ∀ (m : List Nd) (us : List Value) (H : List Nat), (∀ n ∈ m, size n ≤ k) → NodesR w m us H → IsNodes w m us := by
        intro m
        induction m with
        | nil => intro us H _ h; rw [NodesR] at h; rw [IsNodes]; exact h.1
        | cons n r ih =>
          intro us H hm h
          rw [NodesR] at h
          obtain ⟨v, vr, G1, G2, e1, h1, h2, e2⟩ := h
          rw [IsNodes]
          exact ⟨v, vr, e1, NodeR.is k n v G1 (hm n (List.mem_cons_self ..)) h1, ih vr G2 (fun n hn => hm n (List.mem_cons_of_mem _ hn)) h2⟩
      refine hl' l vs Gs (fun n hn => ?_) hk
      have := sizes_mem hn
      rw [size] at h
      omega

theorem NodesR.last {w : World} : ∀ {l : List Nd} {m : Nd} {us : List Value} {G : List Nat}, NodesR w (l ++ [m]) us G → ∃ us' u G1 G2, us = us' ++ [u] ∧ NodesR w l us' G1 ∧ NodeR w m u G2 ∧ G = G1 ++ G2
  | [], m, us, G, h => by
    rw [List.nil_append, NodesR] at h
    obtain ⟨v, vr, G1, G2, rfl, h1, h2, rfl⟩ := h
    rw [NodesR] at h2
    obtain ⟨rfl, rfl⟩ := h2
    exact ⟨[], v, [], G1, rfl, by rw [NodesR]; exact ⟨rfl, rfl⟩, h1, by simp⟩
  | n :: l, m, us, G, h => by
    rw [List.cons_append, NodesR] at h
    obtain ⟨v, vr, G1, G2, rfl, h1, h2, rfl⟩ := h
    obtain ⟨us', u, H1, H2, rfl, k1, k2, rfl⟩ := NodesR.last h2
    exact ⟨v :: us', u, G1 ++ H1, H2, rfl, by rw [NodesR]; exact ⟨v, us', G1, H1, rfl, h1, k1, rfl⟩, k2, by rw [List.append_assoc]⟩
theorem nodes_last {w : World} : ∀ {l : List Nd} {m : Nd} {vs : List Value}, IsNodes w (l ++ [m]) vs → ∃ vs' v, vs = vs' ++ [v] ∧ IsNodes w l vs' ∧ IsNode w m v
  | [], m, vs, h => by
    rw [List.nil_append, IsNodes] at h
    obtain ⟨v, vr, rfl, h1, h2⟩ := h
    rw [IsNodes] at h2
    subst h2
    exact ⟨[], v, rfl, by rw [IsNodes], h1⟩
  | n :: l, m, vs, h => by
    rw [List.cons_append, IsNodes] at h
    obtain ⟨v, vr, rfl, h1, h2⟩ := h
    obtain ⟨vs', u, rfl, k1, k2⟩ := nodes_last h2
    exact ⟨v :: vs', u, rfl, by rw [IsNodes]; exact ⟨v, vs', rfl, h1, k1⟩, k2⟩
theorem nodes_join {w : World} : ∀ {l m : List Nd} {vs us : List Value}, IsNodes w l vs → IsNodes w m us → IsNodes w (l ++ m) (vs ++ us)
  | [], m, vs, us, h, k => by rw [IsNodes] at h; subst h; exact k
  | n :: l, m, vs, us, h, k => by
    rw [IsNodes] at h
    obtain ⟨v, vr, rfl, h1, h2⟩ := h
    rw [List.cons_append, IsNodes]
    exact ⟨v, vr ++ us, rfl, h1, nodes_join h2 k⟩
theorem node_size {w : World} {n : Nd} {v : Value} (h : IsNode w n v) : v.cells.size = 4 := by
  obtain ⟨ao, cap, vs, rfl, -⟩ := h.open
  rfl
theorem nodes_size {w : World} {l : List Nd} {vs : List Value} (h : IsNodes w l vs) : ∀ v ∈ vs, v.cells.size = 4 := fun v hv => by
  obtain ⟨i, hi, rfl⟩ := List.getElem_of_mem hv
  have hlen := h.len
  obtain ⟨u, hu, hn⟩ := h.at (i := i) (by omega)
  rw [List.getElem?_eq_getElem hi] at hu
  rw [Option.some.inj hu]
  exact node_size hn
theorem cells_get : ∀ {vs : List Value}, (∀ v ∈ vs, v.cells.size = 4) → ∀ k u, (cellsV vs)[k]? = some u → ∃ i j v, vs[i]? = some v ∧ v.cells[j]? = some u ∧ k = i * 4 + j
  | [], _, k, u, h => by simp [cellsV] at h
  | v :: vs, hc, k, u, h => by
    have h4 := hc v (List.mem_cons_self ..)
    have e : cellsV (v :: vs) = v.cells.toList ++ cellsV vs := rfl
    rw [e] at h
    by_cases hk : k < 4
    · rw [List.getElem?_append_left (by rw [Array.length_toList]; omega)] at h
      exact ⟨0, k, v, rfl, by simpa using h, by omega⟩
    · rw [List.getElem?_append_right (by rw [Array.length_toList]; omega), Array.length_toList, h4] at h
      obtain ⟨i, j, x, h1, h2, h3⟩ := cells_get (fun v hv => hc v (List.mem_cons_of_mem _ hv)) (k - 4) u h
      exact ⟨i + 1, j, x, by simpa using h1, h2, by omega⟩
/-- The cells of a row that lies there. -/
theorem row_cells {w : World} {g o : Nat} {l : List Nd} {vs : List Value} (hr : RowAt w 4 g o vs) (hn : IsNodes w l vs) : ∀ j u, (cellsV vs)[j]? = some u → w.cell? ((⟨g, o, none⟩ : Addr).add j) = some u := fun j u hj => by
  obtain ⟨i, k, v, h1, h2, h3⟩ := cells_get (nodes_size hn) j u hj
  rw [Tr.addp, h3, ← Nat.add_assoc]
  exact (hr i v h1).2 k u h2
theorem cells_len {vs : List Value} (h : ∀ v ∈ vs, v.cells.size = 4) : (cellsV vs).length = vs.length * 4 := by
  induction vs with
  | nil => rfl
  | cons v vs ih =>
    have e : cellsV (v :: vs) = v.cells.toList ++ cellsV vs := rfl
    rw [e, List.length_append, Array.length_toList, h v (List.mem_cons_self ..), ih fun v hv => h v (List.mem_cons_of_mem _ hv), List.length_cons]
    omega
theorem nodes_one {w : World} {l : List Nd} {vs : List Value} (h : IsNodes w l vs) : ∀ c ∈ cellsV vs, c.oneCell' = true := fun c hc => by
  rw [cellsV, List.mem_flatMap] at hc
  obtain ⟨v, hv, hc⟩ := hc
  obtain ⟨i, hi, rfl⟩ := List.getElem_of_mem hv
  have hlen := h.len
  obtain ⟨u, hu, hn⟩ := h.at (i := i) (by omega)
  rw [List.getElem?_eq_getElem hi] at hu
  rw [Option.some.inj hu] at hc
  obtain ⟨ao, cap, vs, rfl, -⟩ := hn.open
  simp [Value.cells] at hc
  rcases hc with rfl | rfl | rfl | rfl <;> rfl
theorem NodesR.is {w : World} : ∀ {l : List Nd} {vs : List Value} {G : List Nat}, NodesR w l vs G → IsNodes w l vs
  | [], vs, G, h => by rw [NodesR] at h; rw [IsNodes]; exact h.1
  | n :: r, vs, G, h => by
    rw [NodesR] at h
    obtain ⟨v, vr, G1, G2, e1, h1, h2, -⟩ := h
    rw [IsNodes]
    exact ⟨v, vr, e1, NodeR.is _ n v G1 (Nat.le_refl _) h1, NodesR.is h2⟩

/-! ### as things of a kind -/
def NodeU (S : Nat → Prop) (w : World) (n : Nd) (v : Value) : Prop := ∃ G, NodeR w n v G ∧ G.Nodup ∧ ∀ g ∈ G, S g
theorem NodeR.at_lt {w : World} {n : Nd} {v : Value} {G : List Nat} (h : NodeR w n v G) {g : Nat} (hg : g ∈ G) : g < w.heap.size := by
  obtain ⟨cur, T, h3⟩ := NodeR.lt _ n v G (Nat.le_refl _) h g hg
  exact (Array.getElem?_eq_some_iff.1 h3).1
theorem NodeU.turn {S S' F : Nat → Prop} {w x : World} {n : Nd} {v : Value} (h : NodeU S w n v) (ht : Turns F w x) (hF : ∀ g, S g → g < w.heap.size → ¬ F g) (hS : ∀ g, S g → g < w.heap.size → S' g) : NodeU S' x n v := by
  obtain ⟨G, h1, h2, h3⟩ := h
  have hlt := fun g hg => NodeR.at_lt h1 (g := g) hg
  exact ⟨G, NodeR.on _ n v G (Nat.le_refl _) h1 fun g hg => ht.block g (hlt g hg) (hF g (h3 g hg) (hlt g hg)), h2, fun g hg => hS g (h3 g hg) (hlt g hg)⟩
theorem NodeU.open {S : Nat → Prop} {w : World} {n : Nd} {v : Value} (h : NodeU S w n v) : ∃ ao cap, v = node4 n.kind n.ta n.tb (.slice ao n.kids.length cap) := by
  obtain ⟨G, h1, -⟩ := h
  obtain ⟨ao, cap, vs, rfl, -⟩ := h1.open
  exact ⟨ao, cap, rfl⟩
theorem NodeU.is {S : Nat → Prop} {w : World} {n : Nd} {v : Value} (h : NodeU S w n v) : IsNode w n v := by
  obtain ⟨G, h1, -⟩ := h
  exact NodeR.is _ n v G (Nat.le_refl _) h1
def nodeU : Elt Nd where
  c := 4
  pos := by decide
  is := NodeU
  cells := fun h => by obtain ⟨ao, cap, rfl⟩ := h.open; rfl
  one := fun h u hu => by
    obtain ⟨ao, cap, rfl⟩ := h.open
    rw [Gr.node_cells] at hu
    simp at hu
    rcases hu with rfl | rfl | rfl | rfl <;> rfl
  turn := fun h ht hF hS => h.turn ht hF hS
def RelU (S : Nat → Prop) (w : World) (r : Rl) (v : Value) : Prop :=
  ∃ ao cap no nc B, v = relV r (.slice ao r.allow.length cap) (.slice no r.expr.kids.length nc) ∧ RowS allowE w B tAl (.slice ao r.allow.length cap) r.allow ∧ (∀ k, (Value.slice ao r.allow.length cap).ownBlock = some k → S k) ∧
    NodeU S w r.expr (node4 r.expr.kind r.expr.ta r.expr.tb (.slice no r.expr.kids.length nc))
def relU : Elt Rl where
  c := 6
  pos := by decide
  is := RelU
  cells := fun h => by
    obtain ⟨ao, cap, no, nc, B, rfl, -⟩ := h
    rfl
  one := fun h u hu => by
    obtain ⟨ao, cap, no, nc, B, rfl, -⟩ := h
    rw [Gr.rel_cells] at hu
    simp at hu
    rcases hu with rfl | rfl | rfl | rfl | rfl | rfl <;> rfl
  turn := fun h ht hF hS => by
    obtain ⟨ao, cap, no, nc, B, rfl, h1, h3, h2⟩ := h
    exact ⟨ao, cap, no, nc, B, rfl, Gr.allow_turn h1 ht fun k hk => hF k (h3 k hk) (h1.own_lt hk).2, fun k hk => hS k (h3 k hk) (h1.own_lt hk).2, h2.turn ht hF hS⟩
def TyU (S : Nat → Prop) (w : World) (t : Ty) (v : Value) : Prop :=
  ∃ ao cap vs B, v = tyV t (.slice ao t.rels.length cap) ∧ w.ownsRow B tRl 6 (.slice ao t.rels.length cap) t.rels.length (cellsV vs) ∧ vs.length = t.rels.length ∧ (∀ k, (Value.slice ao t.rels.length cap).ownBlock = some k → S k) ∧
    ∀ (i : Nat) (a : Rl) (u : Value), t.rels[i]? = some a → vs[i]? = some u → RelU S w a u
def tyU : Elt Ty where
  c := 2
  pos := by decide
  is := TyU
  cells := fun h => by
    obtain ⟨ao, cap, vs, B, rfl, -⟩ := h
    rfl
  one := fun h u hu => by
    obtain ⟨ao, cap, vs, B, rfl, -⟩ := h
    rw [Gr.ty_cells] at hu
    simp at hu
    rcases hu with rfl | rfl <;> rfl
  turn := fun h ht hF hS => by
    obtain ⟨ao, cap, vs, B, rfl, h1, h2, h3, h4⟩ := h
    exact ⟨ao, cap, vs, B, rfl, Tr.own_turn h1 ht fun k hk => hF k (h3 k hk) (h1.lt k hk).2, h2, fun k hk => hS k (h3 k hk) (h1.lt k hk).2, fun i a u hi hu => relU.turn (h4 i a u hi hu) ht hF hS⟩
def CfU (w : World) (B : Nat) (l : List Ty) (v : Value) : Prop := ∃ ao cap, v = .agg #[.slice ao l.length cap] ∧ RowS tyU w B tTy (.slice ao l.length cap) l

/-! ### a list of nodes that a call owns -/
/-- The row in a block from B on, the rows of its nodes, each another one, in blocks from B on and below C. -/
def RowU (w : World) (B C : Nat) (T : TypeId) (v : Value) (l : List Nd) : Prop :=
  ∃ vs G, w.ownsRow B T 4 v l.length (cellsV vs) ∧ NodesR w l vs G ∧ G.Nodup ∧ ∀ g ∈ G, B ≤ g ∧ g < C ∧ v.ownBlock ≠ some g
section
variable {w x : World} {B C : Nat} {T : TypeId} {v v' : Value} {l : List Nd}
theorem RowU.nil (w : World) (B C : Nat) (T : TypeId) : RowU w B C T (.slice none 0 0) [] := ⟨[], [], World.ownsRow_nil _ _ _ _, by rw [NodesR]; exact ⟨rfl, rfl⟩, List.nodup_nil, fun g h => by cases h⟩
theorem RowU.slice (h : RowU w B C T v l) : ∃ ao cap, v = .slice ao l.length cap := by
  obtain ⟨vs, G, h1, -⟩ := h
  exact own_slice h1
theorem RowU.own_lt (h : RowU w B C T v l) {k : Nat} (hk : v.ownBlock = some k) : B ≤ k ∧ k < w.heap.size := by
  obtain ⟨vs, G, h1, -⟩ := h
  exact h1.lt k hk
theorem RowU.turn (h : RowU w B C T v l) {F : Nat → Prop} (ht : Turns F w x) (hF : ∀ g, B ≤ g → g < w.heap.size → ¬ F g) : RowU x B C T v l := by
  obtain ⟨vs, G, h1, h2, h3, h4⟩ := h
  exact ⟨vs, G, Tr.own_turn h1 ht fun k hk => hF k (h1.lt k hk).1 (h1.lt k hk).2, h2.on fun g hg => ht.block g (h2.lt g hg) (hF g (h4 g hg).1 (h2.lt g hg)), h3, h4⟩
theorem RowU.below (h : RowU w B C T v l) (hb : Below w.heap.size w x) : RowU x B C T v l := h.turn (Turns.of_below (F := fun _ => False) hb) fun _ _ _ h => h
theorem RowU.now (h : RowU w B C T v l) : RowU w B w.heap.size T v l := by
  obtain ⟨vs, G, h1, h2, h3, h4⟩ := h
  exact ⟨vs, G, h1, h2, h3, fun g hg => ⟨(h4 g hg).1, h2.lt g hg, (h4 g hg).2.2⟩⟩
theorem RowU.up {D : Nat} (h : RowU w B C T v l) (hD : C ≤ D) : RowU w B D T v l := by
  obtain ⟨vs, G, h1, h2, h3, h4⟩ := h
  exact ⟨vs, G, h1, h2, h3, fun g hg => ⟨(h4 g hg).1, Nat.lt_of_lt_of_le (h4 g hg).2.1 hD, (h4 g hg).2.2⟩⟩
theorem RowU.mono {B' : Nat} (h : RowU w B C T v l) (hB : B' ≤ B) : RowU w B' C T v l := by
  obtain ⟨vs, G, h1, h2, h3, h4⟩ := h
  exact ⟨vs, G, Sg.own_mono h1 hB, h2, h3, fun g hg => ⟨Nat.le_trans hB (h4 g hg).1, (h4 g hg).2⟩⟩
/-- Behind an append of one more node, that lies in blocks from C on. -/
theorem RowU.grow {vs : List Value} {G : List Nat} {n : Nd} {u : Value} (h2 : NodesR w l vs G) (h3 : G.Nodup) (h4 : ∀ g ∈ G, B ≤ g ∧ g < C ∧ v.ownBlock ≠ some g) (hu : NodeU (fun g => C ≤ g) w n u) (hB : B ≤ C) (hv : ∀ k, v.ownBlock = some k → k < C)
    (ho : x.ownsRow B T 4 v' (l.length + 1) (cellsV vs ++ cellsV [u])) (hg : w.grownBy x v.ownBlock) (hn : NewRow w v v') : RowU x B x.heap.size T v' (l ++ [n]) := by
  obtain ⟨H, u1, u2, u3⟩ := hu
  have ht : Turns (fun k => v.ownBlock = some k) w x := Turns.of_grown hg fun k hk => hk
  have hlt := fun g hg => NodeR.at_lt u1 (g := g) hg
  have k1 : NodesR x l vs G := h2.on fun g hg => ht.block g (h2.lt g hg) (h4 g hg).2.2
  have k2 : NodeR x n u H := NodeR.on _ n u H (Nat.le_refl _) u1 fun g hg => ht.block g (hlt g hg) fun e => by have := hv g e; have := u3 g hg; omega
  refine ⟨vs ++ [u], G ++ H, ?_, k1.append (NodesR.one k2), ?_, fun g hg => ?_⟩
  · rw [List.length_append, List.length_singleton, cellsV_append]
    exact ho
  · rw [List.nodup_append]
    exact ⟨h3, u2, fun a ha b hb e => by have := (h4 a ha).2.1; have := u3 b hb; omega⟩
  · have hx : g < x.heap.size := by
      rcases List.mem_append.1 hg with hg | hg
      · exact k1.lt g hg
      · exact NodeR.at_lt k2 hg
    have hw : g < w.heap.size := by
      rcases List.mem_append.1 hg with hg | hg
      · exact h2.lt g hg
      · exact hlt g hg
    refine ⟨?_, hx, fun e => ?_⟩
    · rcases List.mem_append.1 hg with hg | hg
      · exact (h4 g hg).1
      · have := u3 g hg; omega
    · rcases hn g e with h | h
      · rcases List.mem_append.1 hg with hg | hg
        · exact (h4 g hg).2.2 h
        · have := hv g h; have := u3 g hg; omega
      · omega
end
theorem node_is {w : World} {B C : Nat} {k : Int} {a b : ByteArray} {l : List Nd} {ao : Option Addr} {cap : Nat} (h1 : RowU w (B + 1) C 52 (.slice ao l.length cap) l) (ha : a.size ≤ maxLen ∧ b.size ≤ maxLen)
    {y : World} (ht : Turns (fun g => g = B) w y) : NodeU (fun g => B ≤ g) y (.mk k a b l) (node4 k a b (.slice ao l.length cap)) := by
  obtain ⟨vs, G, o1, o2, o3, o4⟩ := h1.turn ht fun g hg _ e => by omega
  by_cases hl : l = []
  · refine ⟨[], ?_, List.nodup_nil, fun g h => by cases h⟩
    rw [NodeR]
    exact ⟨ao, cap, vs, rfl, ha, .inl ⟨hl, rfl⟩⟩
  · rcases o1.2 with ⟨-, e0⟩ | ⟨g, cap', cur, hv, hb, hg, -⟩
    · exact absurd (List.eq_nil_of_length_eq_zero e0) hl
    · obtain ⟨rfl, -⟩ : ao = some ⟨g, 0, none⟩ ∧ _ := by simpa using hv
      have hc : ∀ v ∈ vs, v.cells.size = 4 := fun v hv => by
        obtain ⟨i, hi, rfl⟩ := List.getElem_of_mem hv
        have hlen := o2.len
        have hP : ∀ (m : List Nd) (us : List Value) (H : List Nat), NodesR y m us H → ∀ u ∈ us, u.cells.size = 4 := by
          intro m
          induction m with
          | nil => intro us H h u hu; rw [NodesR] at h; rw [h.1] at hu; cases hu
          | cons n r ih =>
            intro us H h u hu
            rw [NodesR] at h
            obtain ⟨v, vr, G1, G2, rfl, h1, h2, -⟩ := h
            rcases List.mem_cons.1 hu with rfl | hu
            · obtain ⟨ao, cap, vs, rfl, -⟩ := h1.open; rfl
            · exact ih vr G2 h2 u hu
        exact hP l vs G o2 _ hv
      have hL := Lies.of_own (P := fun _ _ _ => True) o1 o2.len hc fun _ _ _ _ _ => trivial
      obtain ⟨g', o, e, hr⟩ := hL.row hl
      obtain ⟨rfl, rfl⟩ : g = g' ∧ 0 = o := by simpa using e
      refine ⟨g :: G, ?_, List.nodup_cons.2 ⟨fun hm => (o4 g hm).2.2 rfl, o3⟩, fun k hk => ?_⟩
      · rw [NodeR]
        exact ⟨_, cap, vs, rfl, ha, .inr ⟨hl, g, cur, _, G, rfl, hg, hr, o2, rfl⟩⟩
      · rcases List.mem_cons.1 hk with rfl | hk
        · have := (o1.lt k rfl).1; omega
        · have := (o4 k hk).1; omega
theorem rel_is {w : World} {B : Nat} {A : ByteArray} {l : List Al} {n : Nd} {ao no : Option Addr} {cap nc : Nat} (h1 : RowS allowE w (B + 1) tAl (.slice ao l.length cap) l) (h2 : NodeU (fun g => B + 1 ≤ g) w n (node4 n.kind n.ta n.tb (.slice no n.kids.length nc)))
    {y : World} (ht : Turns (fun g => g = B) w y) : RelU (fun g => B ≤ g) y ⟨A, l, n⟩ (relV ⟨A, l, n⟩ (.slice ao l.length cap) (.slice no n.kids.length nc)) :=
  ⟨ao, cap, no, nc, B + 1, rfl, Gr.row_al h1 ht fun g hg => by omega, fun k hk => by have := (h1.own_lt hk).1; omega, h2.turn ht (fun g hg _ e => by omega) fun g hg _ => by omega⟩
theorem ty_is {w : World} {B : Nat} {A : ByteArray} {l : List Rl} {ao : Option Addr} {cap : Nat} (h1 : RowS relU w (B + 1) tRl (.slice ao l.length cap) l)
    {y : World} (ht : Turns (fun g => g = B) w y) : TyU (fun g => B ≤ g) y ⟨A, l⟩ (tyV ⟨A, l⟩ (.slice ao l.length cap)) := by
  have h2 : RowS relU y (B + 1) tRl (.slice ao l.length cap) l := h1.turn ht fun g hg _ e => by omega
  obtain ⟨vs, o1, o2, o3⟩ := h2
  exact ⟨ao, cap, vs, B + 1, rfl, o1, o2, fun k hk => by have := (o1.lt k hk).1; omega, fun i a u hi hu => Elt.mono (E := relU) (o3 i a u hi hu) fun g hg _ => by have := hg.1; omega⟩

/-! ### read again -/
/-- As IsRl, each list of kids in a row of its own. -/
def IsRlU (w : World) (r : Rl) (v : Value) : Prop := ∃ S, RelU S w r v
def IsTyU (w : World) (t : Ty) (v : Value) : Prop := ∃ ao cap us, v = tyV t (.slice ao t.rels.length cap) ∧ Lies IsRlU 6 w ao t.rels us
theorem IsRlU.below {w x : World} {r : Rl} {v : Value} (h : IsRlU w r v) (hb : Below w.heap.size w x) : IsRlU x r v := by
  obtain ⟨S, h⟩ := h
  exact ⟨S, relU.turn h (Turns.of_below (F := fun _ => False) hb) (fun _ _ _ h => h) fun _ h _ => h⟩
theorem IsRlU.is {w : World} {r : Rl} {v : Value} (h : IsRlU w r v) : IsRl w r v := by
  obtain ⟨S, ao, cap, no, nc, B, e, ⟨us, h1, h2, h3⟩, -, hn⟩ := h
  exact ⟨ao, cap, no, nc, us, e, Lies.of_own h1 h2 (Gr.cellsV_len (E := allowE) h2 h3) fun i a u hi hu => h3 i a u hi hu, hn.is⟩
theorem TyU.is {S : Nat → Prop} {w : World} {t : Ty} {v : Value} (h : TyU S w t v) : IsTyU w t v := by
  obtain ⟨ao, cap, vs, B, e, h1, h2, -, h4⟩ := h
  exact ⟨ao, cap, vs, e, Lies.of_own h1 h2 (Gr.cellsV_len (E := relU) h2 h4) fun i a u hi hu => ⟨S, h4 i a u hi hu⟩⟩
theorem IsTyU.below {w x : World} {t : Ty} {v : Value} (h : IsTyU w t v) (hb : Below w.heap.size w x) : IsTyU x t v := by
  obtain ⟨ao, cap, us, e, h1⟩ := h
  exact ⟨ao, cap, us, e, h1.on hb fun _ _ h => h.below hb⟩
theorem IsTyU.is {w : World} {t : Ty} {v : Value} (h : IsTyU w t v) : IsTy w t v := by
  obtain ⟨ao, cap, us, e, h1⟩ := h
  exact ⟨ao, cap, us, e, ⟨h1.len, h1.big, h1.row, fun i a u hi hu => (h1.is i a u hi hu).is⟩⟩
theorem CfU.lies {w : World} {B : Nat} {l : List Ty} {v : Value} (h : CfU w B l v) : ∃ ao cap us, v = .agg #[.slice ao l.length cap] ∧ Lies IsTyU 2 w ao l us := by
  obtain ⟨ao, cap, e, vs, h1, h2, h3⟩ := h
  exact ⟨ao, cap, vs, e, Lies.of_own h1 h2 (Gr.cellsV_len (E := tyU) h2 h3) fun i a u hi hu => TyU.is (h3 i a u hi hu)⟩
theorem CfU.is {w : World} {B : Nat} {l : List Ty} {v : Value} (h : CfU w B l v) : IsCf w l v := by
  obtain ⟨ao, cap, us, e, h1⟩ := h.lies
  exact ⟨ao, cap, us, e, ⟨h1.len, h1.big, h1.row, fun i a u hi hu => (h1.is i a u hi hu).is⟩⟩
theorem CfU.turn {w x : World} {B : Nat} {l : List Ty} {v : Value} (h : CfU w B l v) {F : Nat → Prop} (ht : Turns F w x) (hF : ∀ g, B ≤ g → g < w.heap.size → ¬ F g) : CfU x B l v := by
  obtain ⟨ao, cap, e, h1⟩ := h
  exact ⟨ao, cap, e, h1.turn ht hF⟩
end Ck
end Go.Proofs.YtopncohhagebbaaDoor
