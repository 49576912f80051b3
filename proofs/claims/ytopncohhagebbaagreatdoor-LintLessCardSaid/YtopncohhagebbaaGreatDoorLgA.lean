/-
  Plain mathematics of layer 9 (lint): ways through a graph whose steps are even or odd; the greatest number of odd steps of a way, counted up to a bound; without a way round that has an odd step no way has more odd steps than there are points. No program is named here.
  Layer 9, pure: what the document answers of whether a configuration means something: relations found, types allowed, what is wrong, what hangs on what.
  Maps to numbers that a call makes: what stands at a key, told by a function of the keys' values; look-ups, stores.
  Layer 9's program, pure: the relations in a row, where each stands, what stands twice, the steps from each to those it hangs on; and that these are the document's.
  Layer 9's program, pure: its steps are the document's; what turns; strata that rise till none does.
-/
import Derived.Lib.Strings
import Derived.Test.YtopncohhagebbaaGreatDoorMgPure
import Derived.Test.YtopncohhagebbaaGreatDoorMgMem
import Derived.Maps.OwnSet
import Derived.DeepKeys4
namespace Go.Proofs.YtopncohhagebbaaGreatDoor
open Go
namespace Lt

inductive Way (n : Nat) (e : Nat → Nat → Int) : Nat → Nat → List Nat → Prop
  | even {i k : Nat} (hi : i < n) (hk : k < n) (h : e i k = 0) : Way n e i k []
  | odd {i k : Nat} (hi : i < n) (hk : k < n) (h : e i k = 1) : Way n e i k [i]
  | join {i m k : Nat} {A B : List Nat} (h1 : Way n e i m A) (h2 : Way n e m k B) : Way n e i k (A ++ B)
section
variable {n : Nat} {e : Nat → Nat → Int}
theorem Way.lt {i k : Nat} {L : List Nat} (h : Way n e i k L) : i < n ∧ k < n ∧ ∀ v ∈ L, v < n := by
  induction h with
  | even hi hk _ => exact ⟨hi, hk, by simp⟩
  | odd hi hk _ => exact ⟨hi, hk, by simpa using hi⟩
  | join _ _ ih1 ih2 =>
    refine ⟨ih1.1, ih2.2.1, fun v hv => ?_⟩
    rcases List.mem_append.1 hv with hv | hv
    · exact ih1.2.2 v hv
    · exact ih2.2.2 v hv
theorem Way.cut {i k : Nat} {L : List Nat} (h : Way n e i k L) : ∀ (A : List Nat) (v : Nat) (B : List Nat), L = A ++ v :: B → ((A = [] ∧ i = v) ∨ Way n e i v A) ∧ Way n e v k (v :: B) := by
  induction h with
  | even _ _ _ => intro A v B h; simp at h
  | odd hi hk ho =>
    intro A v B h
    cases A with
    | nil =>
      obtain ⟨rfl, rfl⟩ : _ = v ∧ [] = B := by simpa using h
      exact ⟨.inl ⟨rfl, rfl⟩, .odd hi hk ho⟩
    | cons a A => simp at h
  | @join i m k A1 B1 h1 h2 ih1 ih2 =>
    intro A v B h
    rcases List.append_eq_append_iff.1 h with ⟨A', rfl, hB⟩ | ⟨C, hA, hC⟩
    · obtain ⟨hp, hs⟩ := ih2 A' v B hB
      refine ⟨.inr ?_, hs⟩
      rcases hp with ⟨rfl, rfl⟩ | hp
      · rw [List.append_nil]; exact h1
      · exact .join h1 hp
    · cases C with
      | nil =>
        rw [List.append_nil] at hA
        subst hA
        obtain ⟨hp, hs⟩ := ih2 [] v B (by simpa using hC.symm)
        refine ⟨.inr ?_, hs⟩
        rcases hp with ⟨-, rfl⟩ | hp
        · exact h1
        · have := Way.join h1 hp
          rwa [List.append_nil] at this
      | cons c C =>
        obtain ⟨rfl, rfl⟩ : v = c ∧ B = C ++ B1 := by simpa using hC
        obtain ⟨hp, hs⟩ := ih1 A v C hA
        exact ⟨hp, .join hs h2⟩
theorem length_le_of_nodup : ∀ (n : Nat) (L : List Nat), L.Nodup → (∀ x ∈ L, x < n) → L.length ≤ n
  | 0, L, _, h => by
    cases L with
    | nil => exact Nat.le_refl _
    | cons x L => exact absurd (h x (by simp)) (by omega)
  | n + 1, L, hd, h => by
    by_cases hm : n ∈ L
    · have h1 := length_le_of_nodup n (L.erase n) (hd.erase n) fun x hx => by
        have h2 := (hd.mem_erase_iff).1 hx
        have := h x h2.2
        have := h2.1
        omega
      rw [List.length_erase_of_mem hm] at h1
      omega
    · have := length_le_of_nodup n L hd fun x hx => by
        have := h x hx
        have : x ≠ n := fun e => hm (e ▸ hx)
        omega
      omega
theorem Way.round {i k v : Nat} {A B C : List Nat} (h : Way n e i k (A ++ v :: (B ++ v :: C))) : Way n e v v (v :: B) := by
  have h1 := (h.cut A v (B ++ v :: C) rfl).2
  rcases (h1.cut (v :: B) v C (by simp)).1 with ⟨h2, -⟩ | h2
  · simp at h2
  · exact h2
def Calm (n : Nat) (e : Nat → Nat → Int) : Prop := ∀ v L, Way n e v v L → L = []
theorem not_nodup {L : List Nat} (h : ¬ L.Nodup) : ∃ A v B C, L = A ++ v :: (B ++ v :: C) := by
  induction L with
  | nil => exact absurd List.nodup_nil h
  | cons x L ih =>
    by_cases hx : x ∈ L
    · obtain ⟨B, C, rfl⟩ := List.append_of_mem hx
      exact ⟨[], x, B, C, rfl⟩
    · have h2 : ¬ L.Nodup := fun hd => h (List.nodup_cons.2 ⟨hx, hd⟩)
      obtain ⟨A, v, B, C, rfl⟩ := ih h2
      exact ⟨x :: A, v, B, C, rfl⟩
theorem Calm.bound (hc : Calm n e) {i k : Nat} {L : List Nat} (h : Way n e i k L) : L.length ≤ n := by
  refine length_le_of_nodup n L ?_ h.lt.2.2
  apply Classical.byContradiction
  intro hd
  obtain ⟨A, v, B, C, rfl⟩ := not_nodup hd
  exact absurd (hc v _ h.round) (by simp)

structure Sound (n N : Nat) (e w : Nat → Nat → Int) : Prop where
  low : ∀ i k, i < n → k < n → e i k ≤ w i k
  way : ∀ i k, i < n → k < n → 0 ≤ w i k → ∃ L, Way n e i k L ∧ w i k = min (L.length : Int) N
  least : ∀ i k, -1 ≤ w i k
def Full (n N : Nat) (w : Nat → Nat → Int) : Prop := ∀ i k m, i < n → k < n → m < n → 0 ≤ w i m → 0 ≤ w m k → min (w i m + w m k) N ≤ w i k
def put (w : Nat → Nat → Int) (i k : Nat) (x : Int) : Nat → Nat → Int := fun a b => if a = i ∧ b = k then x else w a b
variable {N : Nat} {w : Nat → Nat → Int}
theorem Sound.start (he : ∀ i k, e i k = -1 ∨ e i k = 0 ∨ e i k = 1) (hN : 1 ≤ N) : Sound n N e e := by
  refine ⟨fun _ _ _ _ => Int.le_refl _, fun i k hi hk h => ?_, fun i k => by have := he i k; omega⟩
  rcases he i k with h1 | h1 | h1
  · omega
  · exact ⟨[], .even hi hk h1, by rw [h1]; simp only [List.length_nil]; omega⟩
  · exact ⟨[i], .odd hi hk h1, by rw [h1]; simp; omega⟩
theorem Sound.step (h : Sound n N e w) {i k m : Nat} (hi : i < n) (hk : k < n) (hm : m < n) (h1 : 0 ≤ w i m) (h2 : 0 ≤ w m k) (h3 : w i k < min (w i m + w m k) N) : Sound n N e (put w i k (min (w i m + w m k) N)) := by
  refine ⟨fun a b ha hb => ?_, fun a b ha hb hab => ?_, fun a b => ?_⟩
  · have := h.low a b ha hb
    unfold put
    split
    · rename_i hc
      obtain ⟨rfl, rfl⟩ := hc
      omega
    · exact this
  · unfold put at hab ⊢
    split
    · rename_i hc
      obtain ⟨rfl, rfl⟩ := hc
      obtain ⟨A, hA, eA⟩ := h.way a m ha hm h1
      obtain ⟨B, hB, eB⟩ := h.way m b hm hb h2
      refine ⟨A ++ B, .join hA hB, ?_⟩
      rw [eA, eB, List.length_append]
      omega
    · rename_i hc
      rw [if_neg hc] at hab
      exact h.way a b ha hb hab
  · have := h.least a b
    unfold put
    split <;> omega
theorem Sound.all (h : Sound n N e w) (hf : Full n N w) {i k : Nat} {L : List Nat} (hw : Way n e i k L) : min (L.length : Int) N ≤ w i k := by
  induction hw with
  | @even i k hi hk he =>
    have := h.low i k hi hk
    rw [he] at this
    simp only [List.length_nil]
    omega
  | @odd i k hi hk he =>
    have := h.low i k hi hk
    rw [he] at this
    simp only [List.length_cons, List.length_nil]
    omega
  | @join i m k A B h1 h2 ih1 ih2 =>
    have := hf i k m h1.lt.1 h2.lt.2.1 h1.lt.2.1 (by omega) (by omega)
    rw [List.length_append]
    omega
theorem Sound.calm (h : Sound n N e w) (hf : Full n N w) (hN : 1 ≤ N) : Calm n e ↔ ∀ v, v < n → w v v ≤ 0 := by
  constructor
  · intro hc v hv
    apply Classical.byContradiction
    intro hn
    obtain ⟨L, hL, eL⟩ := h.way v v hv hv (by omega)
    have := hc v L hL
    subst this
    simp only [List.length_nil] at eL
    omega
  · intro hd v L hL
    have h1 := h.all hf hL
    have h2 := hd v hL.lt.1
    apply List.eq_nil_of_length_eq_zero
    omega
theorem Sound.exact (h : Sound n N e w) (hf : Full n N w) (hc : Calm n e) (hN : n ≤ N) : (∀ i k L, Way n e i k L → (L.length : Int) ≤ w i k) ∧ ∀ i k, i < n → k < n → 0 ≤ w i k → ∃ L, Way n e i k L ∧ w i k = L.length := by
  constructor
  · intro i k L hL
    have h1 := h.all hf hL
    have h2 := hc.bound hL
    omega
  · intro i k hi hk h0
    obtain ⟨L, hL, eL⟩ := h.way i k hi hk h0
    have h2 := hc.bound hL
    exact ⟨L, hL, by omega⟩
theorem Sound.same {M : Nat} {u : Nat → Nat → Int} (h : Sound n N e w) (hf : Full n N w) (h' : Sound n M e u) (hf' : Full n M u) (hc : Calm n e) (hN : n ≤ N) (hM : n ≤ M) (i k : Nat) (hi : i < n) (hk : k < n) : w i k = u i k := by
  have a := h.exact hf hc hN
  have b := h'.exact hf' hc hM
  have l1 := h.least i k
  have l2 := h'.least i k
  by_cases h0 : 0 ≤ w i k
  · obtain ⟨L, hL, eL⟩ := a.2 i k hi hk h0
    have h3 := b.1 i k L hL
    obtain ⟨L2, hL2, eL2⟩ := b.2 i k hi hk (by omega)
    have h4 := a.1 i k L2 hL2
    omega
  · by_cases h1 : 0 ≤ u i k
    · obtain ⟨L2, hL2, eL2⟩ := b.2 i k hi hk h1
      have h4 := a.1 i k L2 hL2
      omega
    · omega
theorem Sound.round {M : Nat} {u : Nat → Nat → Int} (h : Sound n N e w) (hf : Full n N w) (h' : Sound n M e u) (hf' : Full n M u) (hN : 1 ≤ N) (hM : 1 ≤ M) (v : Nat) (hv : v < n) : 0 < w v v ↔ 0 < u v v := by
  have key : ∀ {N M : Nat} {w u : Nat → Nat → Int}, Sound n N e w → Sound n M e u → Full n M u → 1 ≤ N → 1 ≤ M → 0 < w v v → 0 < u v v := by
    intro N M w u h h' hf' hN hM h0
    obtain ⟨L, hL, eL⟩ := h.way v v hv hv (by omega)
    have := h'.all hf' hL
    omega
  exact ⟨key h h' hf' hN hM, key h' h hf hM hN⟩
end

def IsStr (n : Nat) (e : Nat → Nat → Int) (i s : Nat) : Prop := (∀ k L, Way n e i k L → L.length ≤ s) ∧ (s = 0 ∨ ∃ k L, Way n e i k L ∧ L.length = s)
theorem IsStr.unique {n : Nat} {e : Nat → Nat → Int} {i s t : Nat} (h : IsStr n e i s) (k : IsStr n e i t) : s = t := by
  rcases h.2 with h2 | ⟨a, L, hL, eL⟩ <;> rcases k.2 with k2 | ⟨b, M, hM, eM⟩
  · omega
  · have := h.1 b M hM; omega
  · have := k.1 a L hL; omega
  · have := h.1 b M hM; have := k.1 a L hL; omega
theorem IsStr.even {n : Nat} {e : Nat → Nat → Int} {i k s t : Nat} (hi : i < n) (hk : k < n) (he : e i k = 0) (h : IsStr n e i s) (h' : IsStr n e k t) : t ≤ s := by
  rcases h'.2 with h0 | ⟨b, M, hM, eM⟩
  · omega
  · have := h.1 b _ (.join (.even hi hk he) hM)
    simpa [eM] using this
theorem IsStr.odd {n : Nat} {e : Nat → Nat → Int} {i k s t : Nat} (hi : i < n) (hk : k < n) (he : e i k = 1) (h : IsStr n e i s) (h' : IsStr n e k t) : t < s := by
  rcases h'.2 with h0 | ⟨b, M, hM, eM⟩
  · have := h.1 k _ (.odd hi hk he)
    simp at this
    omega
  · have := h.1 b _ (.join (.odd hi hk he) hM)
    simp [eM] at this
    omega

abbrev Tbl := Nat → Nat → Int
def better (N : Nat) (w : Tbl) (i k m : Nat) : Prop := 0 ≤ w i m ∧ 0 ≤ w m k ∧ w i k < min (w i m + w m k) N
instance (N : Nat) (w : Tbl) (i k m : Nat) : Decidable (better N w i k m) := by unfold better; infer_instance
def look (N : Nat) (s : Tbl × Bool) (t : Nat × Nat × Nat) : Tbl × Bool :=
  if better N s.1 t.1 t.2.1 t.2.2 then (put s.1 t.1 t.2.1 (min (s.1 t.1 t.2.2 + s.1 t.2.2 t.2.1) N), true) else s
def looks (N : Nat) (l : List (Nat × Nat × Nat)) (s : Tbl × Bool) : Tbl × Bool := l.foldl (look N) s
section
variable {n N : Nat} {e : Nat → Nat → Int}
theorem looks_cons (t : Nat × Nat × Nat) (l : List (Nat × Nat × Nat)) (s : Tbl × Bool) : looks N (t :: l) s = looks N l (look N s t) := rfl
theorem looks_true : ∀ (l : List (Nat × Nat × Nat)) (w : Tbl), (looks N l (w, true)).2 = true
  | [], _ => rfl
  | t :: l, w => by
    rw [looks_cons]
    unfold look
    split
    · exact looks_true l _
    · exact looks_true l w
theorem looks_still : ∀ (l : List (Nat × Nat × Nat)) (w : Tbl), (looks N l (w, false)).2 = false → (looks N l (w, false)).1 = w ∧ ∀ t ∈ l, ¬ better N w t.1 t.2.1 t.2.2
  | [], w, _ => ⟨rfl, by simp⟩
  | t :: l, w, h => by
    rw [looks_cons] at h ⊢
    unfold look at h ⊢
    by_cases hb : better N (w, false).1 t.1 t.2.1 t.2.2
    · rw [if_pos hb] at h
      rw [looks_true] at h
      cases h
    · rw [if_neg hb] at h ⊢
      obtain ⟨h1, h2⟩ := looks_still l w h
      refine ⟨h1, fun x hx => ?_⟩
      rcases List.mem_cons.1 hx with rfl | hx
      · exact hb
      · exact h2 x hx
def triples (n : Nat) : List (Nat × Nat × Nat) := (List.range n).flatMap fun i => (List.range n).flatMap fun k => (List.range n).map fun m => (i, k, m)
theorem triples_mem {t : Nat × Nat × Nat} : t ∈ triples n ↔ t.1 < n ∧ t.2.1 < n ∧ t.2.2 < n := by
  obtain ⟨i, k, m⟩ := t
  simp only [triples, List.mem_flatMap, List.mem_map, List.mem_range, Prod.mk.injEq]
  constructor
  · rintro ⟨a, ha, b, hb, c, hc, rfl, rfl, rfl⟩
    exact ⟨ha, hb, hc⟩
  · rintro ⟨hi, hk, hm⟩
    exact ⟨i, hi, k, hk, m, hm, rfl, rfl, rfl⟩
theorem looks_full {w : Tbl} (h : (looks N (triples n) (w, false)).2 = false) : Full n N w := fun i k m hi hk hm h1 h2 => by
  have := (looks_still _ w h).2 (i, k, m) (triples_mem.2 ⟨hi, hk, hm⟩)
  apply Classical.byContradiction
  intro hn
  exact this ⟨h1, h2, by show w i k < min (w i m + w m k) N; omega⟩
def held (n : Nat) (w : Tbl) : Nat := ((List.range n).map fun i => ((List.range n).map fun k => (w i k + 1).toNat).sum).sum
theorem sum_le {l : List Nat} {f g : Nat → Nat} (h : ∀ x ∈ l, f x ≤ g x) : (l.map f).sum ≤ (l.map g).sum := by
  induction l with
  | nil => exact Nat.le_refl _
  | cons a l ih =>
    rw [List.map_cons, List.map_cons, List.sum_cons, List.sum_cons]
    have := h a (by simp)
    have := ih fun x hx => h x (by simp [hx])
    omega
theorem sum_lt {l : List Nat} {f g : Nat → Nat} (h : ∀ x ∈ l, f x ≤ g x) {a : Nat} (ha : a ∈ l) (hlt : f a < g a) : (l.map f).sum < (l.map g).sum := by
  induction l with
  | nil => cases ha
  | cons b l ih =>
    rw [List.map_cons, List.map_cons, List.sum_cons, List.sum_cons]
    have h1 := h b (by simp)
    have h2 := sum_le (l := l) (f := f) (g := g) fun x hx => h x (by simp [hx])
    rcases List.mem_cons.1 ha with rfl | ha
    · omega
    · have := ih (fun x hx => h x (by simp [hx])) ha
      omega
theorem held_put {w : Tbl} {i k : Nat} {x : Int} (hi : i < n) (hk : k < n) (h0 : -1 ≤ w i k) (hx : w i k < x) : held n w < held n (put w i k x) := by
  have hle : ∀ a b, (w a b + 1).toNat ≤ (put w i k x a b + 1).toNat := fun a b => by
    unfold put
    split
    · rename_i hc
      obtain ⟨rfl, rfl⟩ := hc
      omega
    · exact Nat.le_refl _
  refine sum_lt (fun a _ => sum_le fun b _ => hle a b) (List.mem_range.2 hi) ?_
  refine sum_lt (fun b _ => hle i b) (List.mem_range.2 hk) ?_
  unfold put
  rw [if_pos ⟨rfl, rfl⟩]
  omega
theorem held_look : ∀ (l : List (Nat × Nat × Nat)) (s : Tbl × Bool), (∀ t ∈ l, t.1 < n ∧ t.2.1 < n ∧ t.2.2 < n) → Sound n N e s.1 → held n s.1 ≤ held n (looks N l s).1 ∧ ((looks N l s).2 = true → s.2 = true ∨ held n s.1 < held n (looks N l s).1)
  | [], s, _, _ => ⟨Nat.le_refl _, fun h => .inl h⟩
  | t :: l, s, hl, h => by
    rw [looks_cons]
    obtain ⟨h1, h2, h3⟩ := hl t (by simp)
    by_cases hb : better N s.1 t.1 t.2.1 t.2.2
    · have e1 : look N s t = (put s.1 t.1 t.2.1 (min (s.1 t.1 t.2.2 + s.1 t.2.2 t.2.1) N), true) := by unfold look; rw [if_pos hb]
      rw [e1]
      have hp := held_put (n := n) h1 h2 (h.least t.1 t.2.1) hb.2.2
      have ih := (held_look l (put s.1 t.1 t.2.1 (min (s.1 t.1 t.2.2 + s.1 t.2.2 t.2.1) N), true) (fun x hx => hl x (by simp [hx])) (h.step h1 h2 h3 hb.1 hb.2.1 hb.2.2)).1
      simp only at ih
      exact ⟨by omega, fun _ => .inr (by omega)⟩
    · have e1 : look N s t = s := by unfold look; rw [if_neg hb]
      rw [e1]
      exact held_look l s (fun x hx => hl x (by simp [hx])) h
theorem sum_const (l : List Nat) (c : Nat) {f : Nat → Nat} (h : ∀ x ∈ l, f x ≤ c) : (l.map f).sum ≤ c * l.length := by
  induction l with
  | nil => simp
  | cons a l ih =>
    rw [List.map_cons, List.sum_cons, List.length_cons, Nat.mul_add, Nat.mul_one]
    have := h a (by simp)
    have := ih fun x hx => h x (by simp [hx])
    omega
theorem held_most {w : Tbl} (h : Sound n N e w) : held n w ≤ (N + 1) * n * n := by
  have h1 : ∀ i ∈ List.range n, ((List.range n).map fun k => (w i k + 1).toNat).sum ≤ (N + 1) * n := fun i hi => by
    have := sum_const (List.range n) (N + 1) (f := fun k => (w i k + 1).toNat) fun k hk => by
      rw [List.mem_range] at hi hk
      by_cases h0 : 0 ≤ w i k
      · obtain ⟨L, -, eL⟩ := h.way i k hi hk h0
        omega
      · have := h.least i k
        omega
    rwa [List.length_range] at this
  have := sum_const (List.range n) ((N + 1) * n) h1
  rwa [List.length_range] at this
end

def strat (n : Nat) (w : Tbl) (i : Nat) : Nat := ((List.range n).map fun k => (w i k).toNat).foldl max 0
theorem fold_max : ∀ (l : List Nat) (a : Nat), a ≤ l.foldl max a ∧ (∀ x ∈ l, x ≤ l.foldl max a) ∧ (l.foldl max a = a ∨ l.foldl max a ∈ l)
  | [], a => ⟨Nat.le_refl _, by simp, .inl rfl⟩
  | b :: l, a => by
    rw [List.foldl_cons]
    obtain ⟨h1, h2, h3⟩ := fold_max l (max a b)
    refine ⟨by omega, fun x hx => ?_, ?_⟩
    · rcases List.mem_cons.1 hx with rfl | hx
      · omega
      · exact h2 x hx
    · rcases h3 with h3 | h3
      · rcases Nat.le_total a b with h | h
        · exact .inr (by rw [h3, Nat.max_eq_right h]; simp)
        · exact .inl (by rw [h3, Nat.max_eq_left h])
      · exact .inr (by simp [h3])
theorem strat_is {n N : Nat} {e : Nat → Nat → Int} {w : Tbl} (h : Sound n N e w) (hf : Full n N w) (hc : Calm n e) (hN : n ≤ N) {i : Nat} (hi : i < n) : IsStr n e i (strat n w i) := by
  have hx := h.exact hf hc hN
  obtain ⟨-, h2, h3⟩ := fold_max ((List.range n).map fun k => (w i k).toNat) 0
  refine ⟨fun k L hL => ?_, ?_⟩
  · have h4 := hx.1 i k L hL
    have h5 := h2 (w i k).toNat (List.mem_map.2 ⟨k, List.mem_range.2 hL.lt.2.1, rfl⟩)
    unfold strat
    omega
  · rcases h3 with h3 | h3
    · exact .inl h3
    · obtain ⟨k, hk, ek⟩ := List.mem_map.1 h3
      rw [List.mem_range] at hk
      by_cases h0 : 0 ≤ w i k
      · obtain ⟨L, hL, eL⟩ := hx.2 i k hi hk h0
        refine .inr ⟨k, L, hL, ?_⟩
        unfold strat
        rw [← ek]
        omega
      · refine .inl ?_
        unfold strat
        rw [← ek]
        omega
end Lt
end Go.Proofs.YtopncohhagebbaaGreatDoor

namespace Go.Proofs.YtopncohhagebbaaGreatDoor
open Go.RowKit
namespace Lt
open Tr (Nd none0 refs direct Rf)
open Gr (Al Rl Ty)

def same (a b : ByteArray) : Bool := a.toList == b.toList
theorem same_iff {a b : ByteArray} : same a b = true ↔ a = b := by
  rw [same, beq_iff_eq, Lib.toList_data, Lib.toList_data]
  constructor
  · intro h
    obtain ⟨⟨a⟩⟩ := a
    obtain ⟨⟨b⟩⟩ := b
    simp only at h
    rw [h]
  · intro h; rw [h]
theorem same_self (a : ByteArray) : same a a = true := same_iff.2 rfl
theorem same_comm (a b : ByteArray) : same a b = same b a := by
  rw [Bool.eq_iff_iff, same_iff, same_iff]
  exact ⟨Eq.symm, Eq.symm⟩
def zR : Rl := ⟨none0, [], .mk 0 none0 none0 []⟩
def relT (t : Ty) (ty r : ByteArray) : Option Rl := if same t.name ty then t.rels.find? fun x => same x.name r else none
def relC : List Ty → ByteArray → ByteArray → Option Rl
  | [], _, _ => none
  | t :: l, ty, r => (relT t ty r).or (relC l ty r)
theorem relC_append (l m : List Ty) (ty r : ByteArray) : relC (l ++ m) ty r = (relC l ty r).or (relC m ty r) := by
  induction l with
  | nil => simp [relC]
  | cons t l ih => rw [List.cons_append, relC, relC, ih, Option.or_assoc]
def has (l : List Ty) (ty r : ByteArray) : Bool := (relC l ty r).isSome
def addT (out : List ByteArray) (a : Al) : List ByteArray := if out.any fun x => same x a.ty then out else out ++ [a.ty]
def typesP (l : List Al) : List ByteArray := l.foldl addT []
def lost (l : List Ty) (a : Al) : Bool := !(l.any fun t => same t.name a.ty) || (!a.rel.toList.isEmpty && !has l a.ty a.rel)
def allowedP (l : List Ty) (r : Rl) : Int := if r.allow.any (lost l) then 13 else 0
def refP (l : List Ty) (ty : ByteArray) (x : Rf) : Int :=
  if x.via.toList.isEmpty then (if has l ty x.rel then 0 else 13)
  else match relC l ty x.via with
    | none => 13
    | some v => if v.expr.kind ≠ 1 then 15 else if v.allow.any (fun a => !a.rel.toList.isEmpty || a.wild) then 15 else if (typesP v.allow).all (fun t => has l t x.rel) then 0 else 13
def first {α : Type} (f : α → Int) : List α → Int
  | [] => 0
  | a :: l => if f a ≠ 0 then f a else first f l
theorem first_append {α : Type} (f : α → Int) : ∀ l m : List α, first f (l ++ m) = if first f l ≠ 0 then first f l else first f m
  | [], m => by simp [first]
  | a :: l, m => by
    rw [List.cons_append, first, first, first_append f l m]
    by_cases h : f a ≠ 0
    · rw [if_pos h, if_pos h, if_pos h]
    · rw [if_neg h, if_neg h]
theorem first_take {α : Type} (f : α → Int) {l : List α} {i : Nat} (hi : i < l.length) (h : first f (l.take i) = 0) : (f l[i] ≠ 0 → first f l = f l[i]) ∧ (f l[i] = 0 → first f (l.take (i + 1)) = 0) := by
  constructor
  · intro hf
    have e : first f l = first f (l.take i ++ (l[i] :: l.drop (i + 1))) := by rw [← List.drop_eq_getElem_cons hi, List.take_append_drop]
    rw [e, first_append, h, if_neg (by simp), first, if_pos hf]
  · intro hf
    rw [List.take_succ_eq_append_getElem hi, first_append, h, if_neg (by simp), first, if_neg (by simpa using hf), first]
def sameA (a b : Al) : Bool := same a.ty b.ty && same a.rel b.rel && (a.wild == b.wild)
def twice : List Al → Bool
  | [] => false
  | a :: l => l.any (sameA a) || twice l
def relP (l : List Ty) (t : Ty) (i : Nat) (r : Rl) : Int :=
  if 6 < r.allow.length then 3
  else if (t.rels.take i).any (fun x => same x.name r.name) then 14
  else if twice r.allow then 14
  else if (direct r.expr false false || direct r.expr true false) != decide (0 < r.allow.length) then 15
  else if allowedP l r ≠ 0 then allowedP l r
  else first (refP l t.name) (refs r.expr false)
def relsP (l : List Ty) (t : Ty) : Nat → List Rl → ByteArray × ByteArray × Int
  | _, [] => (none0, none0, 0)
  | i, r :: m => if relP l t i r ≠ 0 then (t.name, r.name, relP l t i r) else relsP l t (i + 1) m
def typeP (l : List Ty) (i : Nat) (t : Ty) : ByteArray × ByteArray × Int :=
  if 8 < t.rels.length then (t.name, none0, 3)
  else if (l.take i).any (fun x => same x.name t.name) then (t.name, none0, 14)
  else relsP l t 0 t.rels
def typesW (l : List Ty) : Nat → List Ty → ByteArray × ByteArray × Int
  | _, [] => (none0, none0, 0)
  | i, t :: m => if (typeP l i t).2.2 ≠ 0 then typeP l i t else typesW l (i + 1) m
def namesP (l : List Ty) : ByteArray × ByteArray × Int := if 6 < l.length then (none0, none0, 3) else typesW l 0 l

abbrev It := ByteArray × ByteArray
def itemsT (t : Ty) : List It := t.rels.map fun r => (t.name, r.name)
def items (l : List Ty) : List It := l.flatMap itemsT
def viaTo (l : List Ty) (a b : It) (x : Rf) : Bool := if x.via.toList.isEmpty then same b.1 a.1 else (typesP ((relC l a.1 x.via).getD zR).allow).any fun t => same t b.1
def refTo (l : List Ty) (a b : It) (odd : Bool) (x : Rf) : Bool := (x.odd == odd) && same x.rel b.2 && viaTo l a b x
def allowTo (a : Al) (b : It) : Bool := same a.ty b.1 && same a.rel b.2
def hangs (l : List Ty) (a b : It) (odd : Bool) : Bool :=
  ((((relC l a.1 a.2).getD zR).allow.any fun x => allowTo x b) && direct ((relC l a.1 a.2).getD zR).expr odd false) || (refs ((relC l a.1 a.2).getD zR).expr false).any (refTo l a b odd)
def edgeI (l : List Ty) (a b : It) : Int := if hangs l a b true then 1 else if hangs l a b false then 0 else -1
def edge (l : List Ty) (i k : Nat) : Int := match (items l)[i]?, (items l)[k]? with
  | some a, some b => edgeI l a b
  | _, _ => -1
theorem edge_cases (l : List Ty) (i k : Nat) : edge l i k = -1 ∨ edge l i k = 0 ∨ edge l i k = 1 := by
  unfold edge edgeI
  split
  · split
    · exact .inr (.inr rfl)
    · split
      · exact .inr (.inl rfl)
      · exact .inl rfl
  · exact .inl rfl
end Lt
end Go.Proofs.YtopncohhagebbaaGreatDoor

namespace Go.Proofs.YtopncohhagebbaaGreatDoor
open Go.RowKit Go.Maps
namespace Ly
open Knot (Turns)

def Ok (k : TypeId) (v : Value) : Prop := ∃ l, keyOf Tryz.prog k v = some l
def Tab (k : TypeId) (x : World) (b n : Nat) (f : Value → Option Int) : Prop :=
  ∃ D : DataW Unit, x.ownsMap Tryz.prog k (plainElem Tryz.prog 3) b n D ∧ ∀ v l, keyOf Tryz.prog k v = some l → Maps.has D l = (f v).isSome ∧ D.atKey l (.lit (.int .i64 0)) = .lit (.int .i64 ((f v).getD 0))
theorem under_int : Tryz.prog.underlying 3 = some (.int .i64) := Tryz.underlying3
theorem zero_int (w : World) : (zeroValue 3).run Tryz.prog w = .ok (.int .i64 0) w := by kernel_rfl
section
variable {k : TypeId} {x y : World} {b n : Nat} {f : Value → Option Int}
theorem Tab.lt (h : Tab k x b n f) : b < x.heap.size := by
  obtain ⟨D, ⟨es, clock, hb, -⟩, -⟩ := h
  exact (Array.getElem?_eq_some_iff.1 hb).1
theorem Tab.kept (h : Tab k x b n f) (hb : y.heap[b]? = x.heap[b]?) : Tab k y b n f := by
  obtain ⟨D, ⟨es, clock, h1, r⟩, h2⟩ := h
  exact ⟨D, ⟨es, clock, hb.trans h1, r⟩, h2⟩
theorem Tab.turn (h : Tab k x b n f) {F : Nat → Prop} (ht : Turns F x y) (hF : ¬ F b) : Tab k y b n f := h.kept (ht.block b h.lt hF)
theorem Tab.below (h : Tab k x b n f) (hb : Below x.heap.size x y) : Tab k y b n f := h.kept (hb.block b h.lt)
theorem Tab.mono (h : Tab k x b n f) {m : Nat} (hm : n ≤ m) : Tab k x b m f := by
  obtain ⟨D, ⟨es, clock, h1, F, hs, e⟩, h2⟩ := h
  exact ⟨D, ⟨es, clock, h1, F, Nat.le_trans hs hm, e⟩, h2⟩
theorem Tab.made (k : TypeId) (w : World) : Tab k (w.alloc (.map #[] 0)) w.heap.size 0 (fun _ => none) :=
  ⟨.map [], World.ownsMap_made _ _ _ _, fun _ _ _ => ⟨rfl, rfl⟩⟩
theorem Tab.look {t : TypeId} (h : Tab k x b n f) (K : Keyed Tryz.prog k) (ht : Tryz.prog.underlying t = some (.map k 3)) {v : Value} (hv : Ok k v) :
    (Instr.lookup t (.map (some b)) v true).run Tryz.prog x = .ok (.tuple #[.int .i64 ((f v).getD 0), .bool (f v).isSome]) x := by
  obtain ⟨D, ho, hf⟩ := h
  obtain ⟨l, hl⟩ := hv
  obtain ⟨h1, h2⟩ := hf v l hl
  obtain ⟨u, ps, hr, hu⟩ := ho.look_ok K ht (zero_int x) (plainElem_int under_int (by decide)) hl
  obtain ⟨c, rfl, hc, -⟩ := plainElem_int_inv under_int hu
  have hc' := congrArg Prod.fst hc
  rw [h2] at hc'
  obtain rfl : (f v).getD 0 = c := by simpa using hc'
  rw [hr, h1]
theorem Tab.find {t : TypeId} (h : Tab k x b n f) (K : Keyed Tryz.prog k) (ht : Tryz.prog.underlying t = some (.map k 3)) {v : Value} (hv : Ok k v) :
    (Instr.lookup t (.map (some b)) v false).run Tryz.prog x = .ok (.int .i64 ((f v).getD 0)) x := by
  obtain ⟨D, ho, hf⟩ := h
  obtain ⟨l, hl⟩ := hv
  obtain ⟨h1, h2⟩ := hf v l hl
  obtain ⟨c, hr, hc, -⟩ := ho.lookup_int K ht under_int (zero_int x) hl
  rw [h2] at hc
  obtain rfl : (f v).getD 0 = c := by simpa using hc
  exact hr
theorem Tab.put {t : TypeId} (h : Tab k x b n f) (K : Keyed Tryz.prog k) (ht : Tryz.prog.underlying t = some (.map k 3)) (hn : n < 1000000) {v : Value} (hv : Ok k v) {z : Int} (hz : -9223372036854775808 ≤ z ∧ z ≤ 9223372036854775807) {g : Value → Option Int}
    (hg : g v = some z ∧ ∀ u, Ok k u → u ≠ v → g u = f u) :
    ∃ y, (Instr.mapUpdate t (.map (some b)) v (.int .i64 z)).run Tryz.prog x = .ok () y ∧ Tab k y b (n + 1) g ∧ x.grownBy y (some b) := by
  obtain ⟨D, ho, hf⟩ := h
  obtain ⟨l, hl⟩ := hv
  have hw : (Lit.int .i64 z).wf = true := WalkArith.wf_i64 (by omega)
  obtain ⟨y, hr, ho', ht'⟩ := ho.store K ht (by unfold maxLen; omega) hl (plainElem_int under_int hw)
  refine ⟨y, hr, ⟨_, ho', fun u lu hu => ?_⟩, ht'.grown⟩
  by_cases e : u = v
  · subst e
    rw [hg.1]
    obtain rfl : l = lu := Option.some.inj (hl.symm.trans hu)
    exact ⟨has_put_same ho.isMap (K.key hl) _, atKey_put_same ho.isMap (K.key hl) _ _⟩
  · rw [hg.2 u ⟨lu, hu⟩ e]
    have hne : lu ≠ l := fun h => e (K.inj hu (h ▸ hl))
    rw [has_put_other hne, atKey_put_other hne]
    exact hf u lu hu
section
variable {ops : Array Oper} {rest : List Oper} {o : Oper} {a : Act} {Q : Exit → Act → World → Prop}
set_option maxRecDepth 100000 in
theorem walk_put {t : TypeId} (hgd : o.guard = none) (mo ko vo : Operand) (hop : o.op = .mapUpdate t mo ko vo) (h : Tab k x b n f) (K : Keyed Tryz.prog k) (ht : Tryz.prog.underlying t = some (.map k 3)) (hn : n < 1000000)
    (hm : a.eval mo = .map (some b)) {v : Value} {z : Int} (hk : a.eval ko = v) (hvv : a.eval vo = .int .i64 z) (hv : Ok k v) (hz : -9223372036854775808 ≤ z ∧ z ≤ 9223372036854775807) {g : Value → Option Int}
    (hg : g v = some z ∧ ∀ u, Ok k u → u ≠ v → g u = f u)
    (hK : ∀ y, Tab k y b (n + 1) g → x.grownBy y (some b) → wpList Tryz.prog ops Q rest (a.put o.dst undef) y) : wpList Tryz.prog ops Q (o :: rest) a x := by
  refine wpList_plain hgd fun K' hK' => ?_
  obtain ⟨y, hr, h1, h2⟩ := h.put K ht hn hv hz hg
  unfold Oper.wp
  simp [execOp, hop, hm, hk, hvv, hr, Result.andThen]
  exact hK' _ _ (hK y h1 h2)
end
end
theorem lenB (s : ByteArray) : s.data.toList.length = s.size := by rw [Array.length_toList]; rfl

theorem laidOut : laidOutB Tryz.prog = true := by kernel_rfl
theorem keyS : Keyed Tryz.prog 9 := string_keyed Tryz.underlying9
theorem okS {s : ByteArray} (h : s.size ≤ maxLen) : Ok 9 (.string s) := ⟨_, WideMaps.keyOf_string_mk Tryz.underlying9 h⟩
abbrev tSpot : TypeId := 29
abbrev tStand : TypeId := 124
abbrev tAllow : TypeId := 43
theorem mapS : Tryz.prog.underlying 250 = some (.map 9 3) := by kernel_rfl
theorem mapA : Tryz.prog.underlying 262 = some (.map tAllow 3) := by kernel_rfl
theorem mapP : Tryz.prog.underlying 77 = some (.map tSpot 3) := by kernel_rfl
theorem mapD : Tryz.prog.underlying 126 = some (.map tStand 3) := by kernel_rfl
theorem keyP : Keyed Tryz.prog tSpot := .of_law (deep_law_laid laidOut (m := 3) (by omega) (of_decide_eq_true (by kernel_rfl)) (by kernel_rfl) (by kernel_rfl))
theorem keyD : Keyed Tryz.prog tStand := .of_law (deep_law_laid laidOut (m := 3) (by omega) (of_decide_eq_true (by kernel_rfl)) (by kernel_rfl) (by kernel_rfl))
theorem keyA : Keyed Tryz.prog tAllow := .of_law (deep_law_laid laidOut (m := 3) (by omega) (of_decide_eq_true (by kernel_rfl)) (by kernel_rfl) (by kernel_rfl))
theorem kt_spot : Tryz.prog.keyType tSpot = true := by kernel_rfl
theorem kt_stand : Tryz.prog.keyType tStand = true := by kernel_rfl
theorem kt_allow : Tryz.prog.keyType tAllow = true := by kernel_rfl
theorem sizeTypes : Tryz.prog.types.size + 1 = (Tryz.prog.types.size - 1) + 1 + 1 := by
  have : 0 < Tryz.prog.types.size := of_decide_eq_true (by kernel_rfl)
  omega
theorem cells_spot : Tryz.prog.cellsOf tSpot = 2 := by kernel_rfl
theorem cells_stand : Tryz.prog.cellsOf tStand = 2 := by kernel_rfl
theorem cells_allow : Tryz.prog.cellsOf tAllow = 3 := by kernel_rfl
theorem cells_string : Tryz.prog.cellsOf 9 = 1 := by kernel_rfl
theorem cells_int : Tryz.prog.cellsOf 3 = 1 := by kernel_rfl
theorem cells_bool : Tryz.prog.cellsOf 4 = 1 := by kernel_rfl
theorem key_of {k : TypeId} {v : Value} {fs : Array Field} (hu : Tryz.prog.underlying k = some (.struct fs)) (hk : Tryz.prog.keyType k = true) (hf : v.formed Tryz.prog k = true) {ls : List Lit}
    (hl : ∀ d, Tryz.prog.keyLits (d + 1 + 1) k v.cells.toList = some ls) : Ok k v := by
  have h1 : keyOf Tryz.prog k v = if (Tryz.prog.keyType k && v.formed Tryz.prog k) = true then (Tryz.prog.keyLits (Tryz.prog.types.size + 1) k v.cells.toList).map (fun ls => Lit.string (keyBytes ls)) else none := by
    unfold keyOf
    rw [hu]
  rw [hk, hf, Bool.and_self, if_pos rfl, sizeTypes, hl] at h1
  exact ⟨_, h1⟩
theorem okP {a b : ByteArray} (ha : a.size ≤ maxLen) (hb : b.size ≤ maxLen) : Ok tSpot (.agg #[.string a, .string b]) :=
  key_of Tryz.underlying29 kt_spot (by simp [Value.formed, Tryz.underlying29, cells_spot]) (ls := [.string a.data.toList, .string b.data.toList]) fun d => by
    simp [Program.keyLits, Value.cells, Tryz.underlying29, cells_spot, cells_string, Tryz.underlying9, ha, hb]
theorem okD {z : Int} {c : Bool} (hz : -9223372036854775808 ≤ z ∧ z ≤ 9223372036854775807) : Ok tStand (.agg #[.int .i64 z, .bool c]) := by
  have hw : (Lit.int .i64 z).wf = true := WalkArith.wf_i64 (by omega)
  exact key_of Tryz.underlying124 kt_stand (by simp [Value.formed, Tryz.underlying124, cells_stand]) (ls := [.int .i64 z, .bool c]) fun d => by
    simp [Program.keyLits, Value.cells, Tryz.underlying124, cells_stand, cells_int, cells_bool, Tryz.underlying3, Tryz.underlying4, hw]
theorem okA {a b : ByteArray} {c : Bool} (ha : a.size ≤ maxLen) (hb : b.size ≤ maxLen) : Ok tAllow (.agg #[.string a, .string b, .bool c]) :=
  key_of Tryz.underlying43 kt_allow (by simp [Value.formed, Tryz.underlying43, cells_allow]) (ls := [.string a.data.toList, .string b.data.toList, .bool c]) fun d => by
    simp [Program.keyLits, Value.cells, Tryz.underlying43, cells_allow, cells_string, cells_bool, Tryz.underlying9, Tryz.underlying4, ha, hb]
end Ly
end Go.Proofs.YtopncohhagebbaaGreatDoor

namespace Go.Proofs.YtopncohhagebbaaGreatDoor
open Go.RowKit
namespace Lt
open Tr (Nd none0 refs direct Rf)
open Gr (Al Rl Ty)


theorem snoc_ind {α : Type} {P : List α → Prop} (h0 : P []) (h1 : ∀ l x, P l → P (l ++ [x])) (l : List α) : P l := by
  have key : ∀ m : List α, P m.reverse := fun m => by
    induction m with
    | nil => exact h0
    | cons x m ih => rw [List.reverse_cons]; exact h1 _ x ih
  have := key l.reverse
  rwa [List.reverse_reverse] at this

section
variable {α : Type} {e : α → α → Bool}
def onceF (e : α → α → Bool) (out : List α) (x : α) : List α := if out.any (fun y => e y x) then out else out ++ [x]
def onceP (e : α → α → Bool) (l : List α) : List α := l.foldl (onceF e) []
theorem onceP_snoc (l : List α) (x : α) : onceP e (l ++ [x]) = onceF e (onceP e l) x := by
  rw [onceP, List.foldl_append]; rfl
def dup (e : α → α → Bool) : List α → Bool
  | [] => false
  | a :: l => l.any (e a) || dup e l
theorem dup_snoc (x : α) : ∀ l : List α, dup e (l ++ [x]) = (dup e l || l.any fun y => e y x)
  | [] => by simp [dup]
  | a :: l => by
    rw [List.cons_append, dup, dup, dup_snoc x l, List.any_append, List.any_cons]
    simp only [List.any_cons, List.any_nil, Bool.or_false]
    cases e a x <;> cases l.any (e a) <;> cases dup e l <;> simp
theorem once_mem (he : ∀ a b, e a b = true ↔ a = b) (l : List α) : ∀ x, x ∈ onceP e l ↔ x ∈ l := by
  refine snoc_ind (P := fun l => ∀ x, x ∈ onceP e l ↔ x ∈ l) (by intro x; simp [onceP]) (fun l y ih x => ?_) l
  rw [onceP_snoc, onceF]
  split
  · rename_i h
    obtain ⟨z, hz, hzy⟩ := List.any_eq_true.1 h
    rw [he] at hzy
    subst hzy
    rw [ih, List.mem_append, List.mem_singleton]
    constructor
    · exact .inl
    · rintro (h | rfl)
      · exact h
      · exact (ih _).1 hz
  · rw [List.mem_append, List.mem_append, ih]
theorem once_any (he : ∀ a b, e a b = true ↔ a = b) (l : List α) (x : α) : (onceP e l).any (fun y => e y x) = l.any fun y => e y x := by
  rw [Bool.eq_iff_iff, List.any_eq_true, List.any_eq_true]
  constructor
  · rintro ⟨y, hy, hyx⟩; exact ⟨y, (once_mem he l y).1 hy, hyx⟩
  · rintro ⟨y, hy, hyx⟩; exact ⟨y, (once_mem he l y).2 hy, hyx⟩
theorem once_len (he : ∀ a b, e a b = true ↔ a = b) (l : List α) : (onceP e l).length ≤ l.length ∧ (dup e l = false ↔ (onceP e l).length = l.length) := by
  refine snoc_ind (P := fun l => (onceP e l).length ≤ l.length ∧ (dup e l = false ↔ (onceP e l).length = l.length)) ⟨Nat.le_refl _, by simp [onceP, dup]⟩ (fun l x ih => ?_) l
  rw [onceP_snoc, dup_snoc, onceF, once_any he, List.length_append, List.length_singleton]
  cases hx : l.any fun y => e y x with
  | true =>
    rw [if_pos rfl, Bool.or_true]
    refine ⟨by omega, ?_⟩
    simp only [Bool.true_eq_false, false_iff]
    omega
  | false =>
    rw [if_neg (by decide), Bool.or_false, List.length_append, List.length_singleton, ih.2]
    omega
theorem dup_lt (he : ∀ a b, e a b = true ↔ a = b) (l : List α) : decide ((onceP e l).length < l.length) = dup e l := by
  have h := once_len he l
  cases hd : dup e l with
  | true =>
    have : ¬ (onceP e l).length = l.length := fun h2 => by rw [h.2.2 h2] at hd; cases hd
    rw [decide_eq_true_eq]; omega
  | false =>
    have := h.2.1 hd
    rw [decide_eq_false_iff_not]; omega
end
theorem twice_dup : ∀ l : List Al, twice l = dup sameA l
  | [] => rfl
  | a :: l => by rw [twice, dup, twice_dup l]
theorem sameA_iff (a b : Al) : sameA a b = true ↔ a = b := by
  obtain ⟨a1, a2, a3⟩ := a
  obtain ⟨b1, b2, b3⟩ := b
  simp only [sameA, Bool.and_eq_true, same_iff, beq_iff_eq, Al.mk.injEq]
  constructor
  · rintro ⟨⟨h1, h2⟩, h3⟩; exact ⟨h1, h2, h3⟩
  · rintro ⟨h1, h2, h3⟩; exact ⟨⟨h1, h2⟩, h3⟩

abbrev Re := It × Rl
def relsT (t : Ty) : List Re := t.rels.map fun r => ((t.name, r.name), r)
def relsL (l : List Ty) : List Re := l.flatMap relsT
theorem items_rels (l : List Ty) : items l = (relsL l).map (·.1) := by
  rw [items, relsL, List.map_flatMap]
  congr 1
  funext t
  rw [relsT, itemsT, List.map_map]
  rfl
theorem relsL_len (l : List Ty) : (relsL l).length = (items l).length := by rw [items_rels, List.length_map]
theorem relsL_take {l : List Ty} {j : Nat} (h : j < l.length) : relsL (l.take (j + 1)) = relsL (l.take j) ++ relsT l[j] := by
  rw [relsL, List.take_succ_eq_append_getElem h, List.flatMap_append]
  simp [relsL]
theorem relsT_take (t : Ty) {k : Nat} (h : k < t.rels.length) : relsT ⟨t.name, t.rels.take (k + 1)⟩ = relsT ⟨t.name, t.rels.take k⟩ ++ [((t.name, t.rels[k].name), t.rels[k])] := by
  simp only [relsT]
  rw [List.take_succ_eq_append_getElem h, List.map_append]
  rfl
def sameI (a b : It) : Bool := same a.1 b.1 && same a.2 b.2
theorem sameI_iff {a b : It} : sameI a b = true ↔ a = b := by
  obtain ⟨a1, a2⟩ := a
  obtain ⟨b1, b2⟩ := b
  simp only [sameI, Bool.and_eq_true, same_iff, Prod.mk.injEq]
def place (L : List Re) (a : It) : Option Nat := L.findIdx? fun x => sameI x.1 a
theorem place_some {L : List Re} {a : It} {j : Nat} (h : place L a = some j) : ∃ h : j < L.length, L[j].1 = a := by
  rw [place, List.findIdx?_eq_some_iff_getElem] at h
  obtain ⟨h1, h2, -⟩ := h
  exact ⟨h1, sameI_iff.1 h2⟩
theorem place_none {L : List Re} {a : It} : place L a = none ↔ ∀ x ∈ L, x.1 ≠ a := by
  rw [place, List.findIdx?_eq_none_iff]
  constructor
  · intro h x hx e
    have := h x hx
    rw [sameI_iff.2 e] at this
    cases this
  · intro h x hx
    cases hs : sameI x.1 a
    · rfl
    · exact absurd (sameI_iff.1 hs) (h x hx)
theorem place_iff {L : List Re} {a : It} : (place L a).isSome = true ↔ ∃ x ∈ L, x.1 = a := by
  cases h : place L a with
  | none =>
    rw [place_none] at h
    constructor
    · intro h; cases h
    · rintro ⟨x, hx, e⟩; exact absurd e (h x hx)
  | some j =>
    obtain ⟨hj, e⟩ := place_some h
    exact ⟨fun _ => ⟨_, List.getElem_mem hj, e⟩, fun _ => rfl⟩
theorem find_place {α : Type} {p : α → Bool} : ∀ l : List α, l.find? p = (l.findIdx? p).bind fun j => l[j]?
  | [] => rfl
  | a :: l => by
    rw [List.find?_cons, List.findIdx?_cons]
    cases p a
    · simp only [find_place l]
      cases List.findIdx? p l <;> simp
    · simp
theorem rel_place (l : List Ty) (a : It) : relC l a.1 a.2 = (place (relsL l) a).bind fun j => (relsL l)[j]?.map (·.2) := by
  have h1 : ∀ l : List Ty, relC l a.1 a.2 = ((relsL l).find? fun x => sameI x.1 a).map (·.2) := fun l => by
    induction l with
    | nil => rfl
    | cons t l ih =>
      have e : relsL (t :: l) = relsT t ++ relsL l := List.flatMap_cons
      rw [relC, ih, e, List.find?_append]
      have h2 : relT t a.1 a.2 = ((relsT t).find? fun x => sameI x.1 a).map (·.2) := by
        rw [relT, relsT, List.find?_map]
        cases hs : same t.name a.1 with
        | true =>
          rw [if_pos rfl, Option.map_map]
          have : (fun x : Rl => same x.name a.2) = ((fun x : Re => sameI x.1 a) ∘ fun r : Rl => ((t.name, r.name), r)) := by
            funext r
            simp [sameI, hs]
          rw [this]
          cases List.find? ((fun x : Re => sameI x.1 a) ∘ fun r : Rl => ((t.name, r.name), r)) t.rels <;> rfl
        | false =>
          rw [if_neg (by decide)]
          have : List.find? ((fun x : Re => sameI x.1 a) ∘ fun r : Rl => ((t.name, r.name), r)) t.rels = none := by
            rw [List.find?_eq_none]
            intro r _
            simp [sameI, hs]
          rw [this]
          rfl
      rw [h2]
      cases List.find? (fun x => sameI x.1 a) (relsT t) <;> rfl
  rw [h1, find_place]
  show Option.map _ (Option.bind (place (relsL l) a) _) = _
  cases place (relsL l) a <;> rfl
theorem rel_at {l : List Ty} {a : It} {j : Nat} (h : place (relsL l) a = some j) : ∃ hj : j < (relsL l).length, relC l a.1 a.2 = some (relsL l)[j].2 := by
  obtain ⟨hj, -⟩ := place_some h
  refine ⟨hj, ?_⟩
  rw [rel_place, h, Option.bind_some, List.getElem?_eq_getElem hj]
  rfl
theorem has_place (l : List Ty) (a : It) : has l a.1 a.2 = (place (relsL l) a).isSome := by
  rw [has]
  cases h : place (relsL l) a with
  | none => rw [rel_place, h]; rfl
  | some j =>
    obtain ⟨hj, e⟩ := rel_at h
    rw [e]
    rfl

abbrev Stp := Nat × Bool
def spot (L : List Re) (a : It) : Nat := (place L a).getD 0
def allowSteps (L : List Re) (odd : Bool) (l : List Al) : List Stp := (l.filter fun a => !a.rel.toList.isEmpty).map fun a => (spot L (a.ty, a.rel), odd)
def thisSteps (L : List Re) (r : Rl) : List Stp := (if direct r.expr false false then allowSteps L false r.allow else []) ++ (if direct r.expr true false then allowSteps L true r.allow else [])
def ledTo (L : List Re) (ty : ByteArray) (x : Rf) : List ByteArray := if x.via.toList.isEmpty then [ty] else ((L[spot L (ty, x.via)]?).map fun y => y.2.allow.map (·.ty)).getD []
def refSteps (L : List Re) (ty : ByteArray) (x : Rf) : List Stp := (ledTo L ty x).map fun t => (spot L (t, x.rel), x.odd)
def refsSteps (L : List Re) (ty : ByteArray) (l : List Rf) : List Stp := l.flatMap (refSteps L ty)
def stepsOf (L : List Re) (x : Re) : List Stp := thisSteps L x.2 ++ refsSteps L x.1.1 (refs x.2.expr false)
def webL (L : List Re) : List (List Stp) := L.map (stepsOf L)
theorem first_zero {α : Type} {f : α → Int} : ∀ {l : List α}, first f l = 0 → ∀ x ∈ l, f x = 0
  | [], _, x, hx => by cases hx
  | a :: l, h, x, hx => by
    rw [first] at h
    by_cases h0 : f a ≠ 0
    · rw [if_pos h0] at h; exact absurd h h0
    · rw [if_neg h0] at h
      rcases List.mem_cons.1 hx with rfl | hx
      · exact Classical.not_not.1 h0
      · exact first_zero h x hx
theorem relsP_zero {l : List Ty} {t : Ty} : ∀ {m : List Rl} {i : Nat}, (relsP l t i m).2.2 = 0 → ∀ j (h : j < m.length), relP l t (i + j) m[j] = 0
  | [], _, _, j, h => by simp at h
  | r :: m, i, h0, j, h => by
    rw [relsP] at h0
    by_cases hr : relP l t i r ≠ 0
    · rw [if_pos hr] at h0; exact absurd h0 hr
    · rw [if_neg hr] at h0
      match j, h with
      | 0, _ => exact Classical.not_not.1 hr
      | j + 1, h =>
        have := relsP_zero h0 j (by simpa using h)
        rw [show i + (j + 1) = i + 1 + j by omega]
        simpa using this
theorem typesW_zero {l : List Ty} : ∀ {m : List Ty} {i : Nat}, (typesW l i m).2.2 = 0 → ∀ j (h : j < m.length), (typeP l (i + j) m[j]).2.2 = 0
  | [], _, _, j, h => by simp at h
  | t :: m, i, h0, j, h => by
    rw [typesW] at h0
    by_cases ht : (typeP l i t).2.2 ≠ 0
    · rw [if_pos ht] at h0; exact absurd h0 ht
    · rw [if_neg ht] at h0
      match j, h with
      | 0, _ => exact Classical.not_not.1 ht
      | j + 1, h =>
        have := typesW_zero h0 j (by simpa using h)
        rw [show i + (j + 1) = i + 1 + j by omega]
        simpa using this
structure Fine (l : List Ty) : Prop where
  short : l.length ≤ 6
  few : ∀ t ∈ l, t.rels.length ≤ 8
  names : ∀ i (h : i < l.length), (l.take i).any (fun x => same x.name l[i].name) = false
  rel : ∀ t ∈ l, ∀ i (h : i < t.rels.length), relP l t i t.rels[i] = 0
theorem fine_of {l : List Ty} (h : (namesP l).2.2 = 0) : Fine l := by
  unfold namesP at h
  by_cases h6 : 6 < l.length
  · rw [if_pos h6] at h; cases h
  · rw [if_neg h6] at h
    have key : ∀ j (hj : j < l.length), (typeP l j l[j]).2.2 = 0 := fun j hj => by
      have := typesW_zero h j hj
      rwa [Nat.zero_add] at this
    have parts : ∀ j (hj : j < l.length), l[j].rels.length ≤ 8 ∧ (l.take j).any (fun x => same x.name l[j].name) = false ∧ (relsP l l[j] 0 l[j].rels).2.2 = 0 := fun j hj => by
      have h1 := key j hj
      unfold typeP at h1
      by_cases h8 : 8 < l[j].rels.length
      · rw [if_pos h8] at h1; cases h1
      · rw [if_neg h8] at h1
        cases hs : (l.take j).any (fun x => same x.name l[j].name) with
        | true => rw [if_pos hs] at h1; cases h1
        | false =>
          rw [if_neg (by rw [hs]; decide)] at h1
          exact ⟨by omega, rfl, h1⟩
    refine ⟨by omega, fun t ht => ?_, fun i hi => (parts i hi).2.1, fun t ht i hi => ?_⟩
    · obtain ⟨j, hj, rfl⟩ := List.getElem_of_mem ht
      exact (parts j hj).1
    · obtain ⟨j, hj, rfl⟩ := List.getElem_of_mem ht
      have := relsP_zero (parts j hj).2.2 i hi
      rwa [Nat.zero_add] at this
theorem nodup_take {α β : Type} {f : α → β} : ∀ {l : List α}, (∀ i (h : i < l.length), ∀ x ∈ l.take i, f x ≠ f l[i]) → (l.map f).Nodup := fun {l} h => by
  rw [List.nodup_iff_pairwise_ne, List.pairwise_map, List.pairwise_iff_getElem]
  intro i j hi hj hij
  refine h j hj _ ?_
  rw [List.mem_take_iff_getElem]
  exact ⟨i, by omega, rfl⟩
theorem relP_zero {l : List Ty} {t : Ty} {i : Nat} {r : Rl} (h : relP l t i r = 0) : r.allow.length ≤ 6 ∧ (t.rels.take i).any (fun x => same x.name r.name) = false ∧ r.allow.any (lost l) = false ∧ ∀ x ∈ refs r.expr false, refP l t.name x = 0 := by
  unfold relP at h
  by_cases h6 : 6 < r.allow.length
  · rw [if_pos h6] at h; cases h
  rw [if_neg h6] at h
  by_cases h1 : ((t.rels.take i).any fun x => same x.name r.name) = true
  · rw [if_pos h1] at h; cases h
  rw [if_neg h1] at h
  by_cases h2 : twice r.allow = true
  · rw [if_pos h2] at h; cases h
  rw [if_neg h2] at h
  by_cases h3 : ((direct r.expr false false || direct r.expr true false) != decide (0 < r.allow.length)) = true
  · rw [if_pos h3] at h; cases h
  rw [if_neg h3] at h
  by_cases h4 : allowedP l r ≠ 0
  · rw [if_pos h4] at h; exact absurd h h4
  rw [if_neg h4] at h
  refine ⟨by omega, by simpa using h1, ?_, first_zero h⟩
  have h5 : allowedP l r = 0 := Classical.not_not.1 h4
  unfold allowedP at h5
  cases ha : r.allow.any (lost l) with
  | true => rw [ha, if_pos rfl] at h5; cases h5
  | false => rfl
theorem Fine.mem {l : List Ty} (h : Fine l) {x : Re} (hx : x ∈ relsL l) : ∃ t ∈ l, ∃ i, ∃ hi : i < t.rels.length, x = ((t.name, t.rels[i].name), t.rels[i]) ∧ relP l t i t.rels[i] = 0 := by
  obtain ⟨t, ht, hx⟩ := List.mem_flatMap.1 hx
  obtain ⟨r, hr, rfl⟩ := List.mem_map.1 hx
  obtain ⟨i, hi, rfl⟩ := List.getElem_of_mem hr
  exact ⟨t, ht, i, hi, rfl, h.rel t ht i hi⟩
theorem Fine.nodup {l : List Ty} (h : Fine l) : ((relsL l).map (·.1)).Nodup := by
  rw [← items_rels, items, List.nodup_iff_pairwise_ne, List.pairwise_flatMap]
  constructor
  · intro t ht
    rw [← List.nodup_iff_pairwise_ne]
    refine nodup_take fun i hi x hx e => ?_
    have h1 := (relP_zero (h.rel t ht i hi)).2.1
    rw [List.any_eq_false] at h1
    refine h1 x hx ?_
    rw [same_iff]
    exact congrArg Prod.snd e
  · rw [List.pairwise_iff_getElem]
    intro i j hi hj hij
    intro a ha b hb e
    subst e
    obtain ⟨x, -, rfl⟩ := List.mem_map.1 ha
    obtain ⟨y, -, e⟩ := List.mem_map.1 hb
    have h1 := h.names j hj
    rw [List.any_eq_false] at h1
    refine h1 l[i] (by rw [List.mem_take_iff_getElem]; exact ⟨i, by omega, rfl⟩) ?_
    rw [same_iff]
    exact (congrArg Prod.fst e).symm
theorem place_self {L : List Re} (h : (L.map (·.1)).Nodup) {k : Nat} (hk : k < L.length) : place L L[k].1 = some k := by
  have h1 : (place L L[k].1).isSome = true := place_iff.2 ⟨_, List.getElem_mem hk, rfl⟩
  obtain ⟨j, hj⟩ := Option.isSome_iff_exists.1 h1
  obtain ⟨hlt, e⟩ := place_some hj
  rw [hj]
  have h3 : (L.map (·.1))[j]? = (L.map (·.1))[k]? := by rw [List.getElem?_map, List.getElem?_map, List.getElem?_eq_getElem hlt, List.getElem?_eq_getElem hk]; exact congrArg some e
  exact congrArg some ((List.getElem?_inj (by rw [List.length_map]; exact hlt) h).1 h3)
theorem Fine.len {l : List Ty} (h : Fine l) : (relsL l).length ≤ 48 := by
  have key : ∀ m : List Ty, (∀ t ∈ m, t.rels.length ≤ 8) → (relsL m).length ≤ m.length * 8 := fun m hm => by
    induction m with
    | nil => exact Nat.le_refl _
    | cons t m ih =>
      have e : relsL (t :: m) = relsT t ++ relsL m := List.flatMap_cons
      have h1 := ih fun x hx => hm x (by simp [hx])
      have h2 := hm t (by simp)
      rw [e, List.length_append, relsT, List.length_map, List.length_cons]
      omega
  have h1 := key l h.few
  have h2 := h.short
  omega
theorem types_mem {l : List Al} {t : ByteArray} : t ∈ typesP l ↔ ∃ a ∈ l, a.ty = t := by
  refine snoc_ind (P := fun l => t ∈ typesP l ↔ ∃ a ∈ l, a.ty = t) (by simp [typesP]) (fun l a ih => ?_) l
  have e : typesP (l ++ [a]) = addT (typesP l) a := by rw [typesP, List.foldl_append]; rfl
  rw [e, addT]
  constructor
  · intro h
    split at h
    · obtain ⟨b, hb, e⟩ := ih.1 h
      exact ⟨b, by simp [hb], e⟩
    · rcases List.mem_append.1 h with h | h
      · obtain ⟨b, hb, e⟩ := ih.1 h
        exact ⟨b, by simp [hb], e⟩
      · rw [List.mem_singleton] at h
        exact ⟨a, by simp, h.symm⟩
  · rintro ⟨b, hb, rfl⟩
    rcases List.mem_append.1 hb with hb | hb
    · have := ih.2 ⟨b, hb, rfl⟩
      split
      · exact this
      · exact List.mem_append.2 (.inl this)
    · rw [List.mem_singleton] at hb
      subst hb
      split
      · rename_i h
        obtain ⟨x, hx, hs⟩ := List.any_eq_true.1 h
        rw [same_iff] at hs
        rwa [← hs]
      · simp
end Lt
end Go.Proofs.YtopncohhagebbaaGreatDoor

namespace Go.Proofs.YtopncohhagebbaaGreatDoor
open Go.RowKit
namespace Lt
open Tr (Nd none0 refs direct Rf)
open Gr (Al Rl Ty)

theorem spot_place {L : List Re} {a : It} {j : Nat} (h : place L a = some j) : spot L a = j := by rw [spot, h]; rfl
theorem mem_thisSteps {L : List Re} {r : Rl} {k : Nat} {o : Bool} : (k, o) ∈ thisSteps L r ↔ direct r.expr o false = true ∧ ∃ a ∈ r.allow, a.rel.toList.isEmpty = false ∧ spot L (a.ty, a.rel) = k := by
  have key : ∀ (b : Bool) , (k, o) ∈ (if direct r.expr b false then allowSteps L b r.allow else []) ↔ o = b ∧ direct r.expr b false = true ∧ ∃ a ∈ r.allow, a.rel.toList.isEmpty = false ∧ spot L (a.ty, a.rel) = k := fun b => by
    cases hd : direct r.expr b false with
    | false => simp
    | true =>
      rw [if_pos rfl, allowSteps, List.mem_map]
      constructor
      · rintro ⟨a, ha, e⟩
        obtain ⟨h1, h2⟩ := List.mem_filter.1 ha
        obtain ⟨h3, h4⟩ := Prod.mk.inj e
        exact ⟨h4.symm, rfl, a, h1, by simpa using h2, h3⟩
      · rintro ⟨rfl, -, a, h1, h2, h3⟩
        exact ⟨a, List.mem_filter.2 ⟨h1, by rw [h2]; rfl⟩, by rw [h3]⟩
  rw [thisSteps, List.mem_append, key, key]
  constructor
  · rintro (⟨rfl, h⟩ | ⟨rfl, h⟩) <;> exact h
  · intro h
    cases o
    · exact .inl ⟨rfl, h⟩
    · exact .inr ⟨rfl, h⟩
theorem steps_hang {l : List Ty} (hf : Fine l) (hw : ∀ x ∈ relsL l, x.1.2.toList.isEmpty = false) {i : Nat} (hi : i < (relsL l).length) (k : Nat) (o : Bool) :
    (k, o) ∈ stepsOf (relsL l) (relsL l)[i] ↔ ∃ hk : k < (relsL l).length, hangs l (relsL l)[i].1 (relsL l)[k].1 o = true := by
  have hnd := hf.nodup
  have hself : relC l (relsL l)[i].1.1 (relsL l)[i].1.2 = some (relsL l)[i].2 := by
    obtain ⟨hj, e⟩ := rel_at (place_self hnd hi)
    exact e
  obtain ⟨t, ht, ti, hti, hx, hz⟩ := hf.mem (List.getElem_mem hi)
  obtain ⟨-, -, hlost, href⟩ := relP_zero hz
  generalize (relsL l)[i] = x at *
  subst hx
  have hlo : ∀ a ∈ t.rels[ti].allow, lost l a = false := by
    rw [List.any_eq_false] at hlost
    intro a ha
    simpa using hlost a ha
  generalize t.rels[ti] = r at *
  -- what is found
  have found : ∀ {a : It}, has l a.1 a.2 = true → ∃ j, ∃ hj : j < (relsL l).length, place (relsL l) a = some j ∧ (relsL l)[j].1 = a := fun {a} h => by
    rw [has_place] at h
    obtain ⟨j, hj⟩ := Option.isSome_iff_exists.1 h
    obtain ⟨h1, h2⟩ := place_some hj
    exact ⟨j, h1, hj, h2⟩
  have ledIs : ∀ {x : Rf} {v : Rl}, x.via.toList.isEmpty = false → relC l t.name x.via = some v → ledTo (relsL l) t.name x = v.allow.map (·.ty) := fun {x v} hv hr => by
    rw [ledTo, if_neg (by rw [hv]; decide)]
    have h1 : (place (relsL l) (t.name, x.via)).isSome = true := by
      rw [← has_place, has]
      show (relC l t.name x.via).isSome = true
      rw [hr]; rfl
    obtain ⟨j, hj⟩ := Option.isSome_iff_exists.1 h1
    obtain ⟨hlt, e⟩ := rel_at hj
    rw [spot_place hj, List.getElem?_eq_getElem hlt]
    have e2 : (relsL l)[j].2 = v := by
      have : relC l t.name x.via = some (relsL l)[j].2 := e
      rw [hr] at this
      exact (Option.some.inj this).symm
    rw [Option.map_some, e2]
    rfl
  unfold stepsOf hangs
  rw [List.mem_append, mem_thisSteps]
  show _ ↔ ∃ hk : k < (relsL l).length, ((((relC l t.name r.name).getD zR).allow.any fun x => allowTo x (relsL l)[k].1) && direct ((relC l t.name r.name).getD zR).expr o false || (refs ((relC l t.name r.name).getD zR).expr false).any (refTo l (t.name, r.name) (relsL l)[k].1 o)) = true
  have hs' : relC l t.name r.name = some r := hself
  rw [hs', Option.getD_some]
  have hsteps : ∀ x ∈ refs r.expr false, ∀ ty ∈ ledTo (relsL l) t.name x, has l ty x.rel = true := fun x hx ty hty => by
    have h1 := href x hx
    unfold refP at h1
    cases hv : x.via.toList.isEmpty with
    | true =>
      rw [if_pos hv] at h1
      rw [ledTo, if_pos hv, List.mem_singleton] at hty
      subst hty
      cases hh : has l t.name x.rel with
      | true => rfl
      | false => rw [hh, if_neg (by decide)] at h1; cases h1
    | false =>
      rw [if_neg (by rw [hv]; decide)] at h1
      cases hr : relC l t.name x.via with
      | none => rw [hr] at h1; cases h1
      | some v =>
        rw [hr] at h1
        simp only at h1
        by_cases hk1 : v.expr.kind ≠ 1
        · rw [if_pos hk1] at h1; cases h1
        rw [if_neg hk1] at h1
        by_cases hk2 : (v.allow.any fun a => !a.rel.toList.isEmpty || a.wild) = true
        · rw [if_pos hk2] at h1; cases h1
        rw [if_neg hk2] at h1
        by_cases hk3 : ((typesP v.allow).all fun t => has l t x.rel) = true
        · rw [List.all_eq_true] at hk3
          rw [ledIs hv hr] at hty
          obtain ⟨a, ha, rfl⟩ := List.mem_map.1 hty
          exact hk3 _ (types_mem.2 ⟨a, ha, rfl⟩)
        · rw [if_neg hk3] at h1; cases h1
  have hvia : ∀ x ∈ refs r.expr false, ∀ b : It, viaTo l (t.name, r.name) b x = true ↔ b.1 ∈ ledTo (relsL l) t.name x := fun x hx b => by
    unfold viaTo
    cases hv : x.via.toList.isEmpty with
    | true =>
      rw [if_pos rfl, ledTo, if_pos hv, List.mem_singleton, same_iff]
    | false =>
      rw [if_neg (by decide)]
      have h1 := href x hx
      unfold refP at h1
      rw [if_neg (by rw [hv]; decide)] at h1
      show ((typesP ((relC l t.name x.via).getD zR).allow).any fun t => same t b.1) = true ↔ _
      cases hr : relC l t.name x.via with
      | none => rw [hr] at h1; cases h1
      | some v =>
        rw [ledIs hv hr, Option.getD_some, List.any_eq_true, List.mem_map]
        constructor
        · rintro ⟨y, hy, hs⟩
          rw [same_iff] at hs
          subst hs
          exact types_mem.1 hy
        · rintro ⟨a, ha, e⟩
          exact ⟨a.ty, types_mem.2 ⟨a, ha, rfl⟩, by rw [same_iff]; exact e⟩
  constructor
  · rintro (⟨hd, a, ha, hne, hsp⟩ | h)
    · have h1 := hlo a ha
      unfold lost at h1
      rw [Bool.or_eq_false_iff] at h1
      have h2 : has l a.ty a.rel = true := by
        have := h1.2
        rw [hne] at this
        simpa using this
      obtain ⟨j, hj, hp, e⟩ := found (a := (a.ty, a.rel)) h2
      rw [spot_place hp] at hsp
      subst hsp
      refine ⟨hj, ?_⟩
      rw [Bool.or_eq_true, Bool.and_eq_true]
      refine .inl ⟨List.any_eq_true.2 ⟨a, ha, ?_⟩, hd⟩
      rw [e, allowTo, Bool.and_eq_true]
      exact ⟨same_self _, same_self _⟩
    · obtain ⟨x, hx, h⟩ := List.mem_flatMap.1 h
      obtain ⟨ty, hty, e⟩ := List.mem_map.1 h
      obtain ⟨e1, e2⟩ := Prod.mk.inj e
      obtain ⟨j, hj, hp, e3⟩ := found (a := (ty, x.rel)) (hsteps x hx ty hty)
      rw [spot_place hp] at e1
      subst e1
      refine ⟨hj, ?_⟩
      rw [Bool.or_eq_true]
      refine .inr (List.any_eq_true.2 ⟨x, hx, ?_⟩)
      rw [refTo, Bool.and_eq_true, Bool.and_eq_true, e3]
      exact ⟨⟨by rw [e2]; exact beq_self_eq_true _, same_self _⟩, (hvia x hx _).2 hty⟩
  · rintro ⟨hk, h⟩
    rw [Bool.or_eq_true, Bool.and_eq_true] at h
    have hpk := place_self hnd hk
    rcases h with ⟨h, hd⟩ | h
    · obtain ⟨a, ha, hal⟩ := List.any_eq_true.1 h
      rw [allowTo, Bool.and_eq_true, same_iff, same_iff] at hal
      refine .inl ⟨hd, a, ha, ?_, ?_⟩
      · rw [hal.2]; exact hw _ (List.getElem_mem hk)
      · refine spot_place ?_
        have : (a.ty, a.rel) = (relsL l)[k].1 := by rw [hal.1, hal.2]
        rw [this]
        exact hpk
    · obtain ⟨x, hx, hr⟩ := List.any_eq_true.1 h
      rw [refTo, Bool.and_eq_true, Bool.and_eq_true, same_iff, beq_iff_eq] at hr
      obtain ⟨⟨h1, h2⟩, h3⟩ := hr
      refine .inr (List.mem_flatMap.2 ⟨x, hx, List.mem_map.2 ⟨(relsL l)[k].1.1, (hvia x hx _).1 h3, ?_⟩⟩)
      rw [h1, h2]
      exact congrArg (·, o) (spot_place hpk)

abbrev Web := List (List Stp)
def step (W : Web) (i : Nat) (s : Stp) : Prop := s ∈ W.getD i []
inductive Pth (W : Web) : Nat → Nat → Bool → Prop
  | one {i k : Nat} {o : Bool} (h : step W i (k, o)) : Pth W i k o
  | more {i m k : Nat} {o o' : Bool} (h : Pth W i m o) (h' : step W m (k, o')) : Pth W i k (o || o')
theorem Pth.join {W : Web} {i m k : Nat} {o o' : Bool} (h : Pth W i m o) (h' : Pth W m k o') : Pth W i k (o || o') := by
  induction h' with
  | one h1 => exact .more h h1
  | more _ h1 ih => rw [← Bool.or_assoc]; exact .more ih h1
structure Tied (W : Web) (n : Nat) (e : Nat → Nat → Int) : Prop where
  len : W.length = n
  lt : ∀ {i k : Nat} {o : Bool}, step W i (k, o) → i < n ∧ k < n
  odd : ∀ i k, i < n → k < n → (e i k = 1 ↔ step W i (k, true))
  even : ∀ i k, i < n → k < n → (e i k = 0 ↔ ¬ step W i (k, true) ∧ step W i (k, false))
section
variable {W : Web} {n : Nat} {e : Nat → Nat → Int}
theorem Tied.of_way (h : Tied W n e) {i k : Nat} {L : List Nat} (hw : Way n e i k L) : Pth W i k (decide (L ≠ [])) := by
  induction hw with
  | even hi hk he => exact .one (by simpa using ((h.even _ _ hi hk).1 he).2)
  | odd hi hk he => exact .one (by simpa using (h.odd _ _ hi hk).1 he)
  | @join i m k A B _ _ ih1 ih2 =>
    have := ih1.join ih2
    have e : (decide (A ≠ []) || decide (B ≠ [])) = decide (A ++ B ≠ []) := by
      cases A <;> cases B <;> simp
    rwa [e] at this
theorem Tied.way_step (h : Tied W n e) {i k : Nat} {o : Bool} (hs : step W i (k, o)) : ∃ L, Way n e i k L ∧ (o = true → 1 ≤ L.length) := by
  obtain ⟨hi, hk⟩ := h.lt hs
  by_cases h1 : step W i (k, true)
  · exact ⟨[i], .odd hi hk ((h.odd i k hi hk).2 h1), fun _ => Nat.le_refl _⟩
  · cases o with
    | true => exact absurd hs h1
    | false => exact ⟨[], .even hi hk ((h.even i k hi hk).2 ⟨h1, hs⟩), fun e => (by cases e)⟩
theorem Tied.to_way (h : Tied W n e) {i k : Nat} {o : Bool} (hp : Pth W i k o) : ∃ L, Way n e i k L ∧ (o = true → L ≠ []) := by
  induction hp with
  | one hs =>
    obtain ⟨L, h1, h2⟩ := h.way_step hs
    exact ⟨L, h1, fun e => List.length_pos_iff.1 (h2 e)⟩
  | @more m k o o' _ hs ih =>
    obtain ⟨L, h1, h2⟩ := ih
    obtain ⟨M, h3, h4⟩ := h.way_step hs
    refine ⟨L ++ M, .join h1 h3, fun e => ?_⟩
    cases o with
    | true => simp [h2 rfl]
    | false =>
      have := h4 (by simpa using e)
      intro h5
      have := congrArg List.length h5
      rw [List.length_append, List.length_nil] at this
      omega
theorem Tied.rnd (h : Tied W n e) (i : Nat) : (∃ L, Way n e i i L ∧ L ≠ []) ↔ Pth W i i true := by
  constructor
  · rintro ⟨L, h1, h2⟩
    have := h.of_way h1
    rwa [decide_eq_true h2] at this
  · intro hp
    obtain ⟨L, h1, h2⟩ := h.to_way hp
    exact ⟨L, h1, h2 rfl⟩
end

structure Srch (W : Web) (from' : Nat) (C R : List Stp) : Prop where
  sound : ∀ s ∈ C, Pth W from' s.1 s.2
  rest : ∀ s ∈ R, s = (from', false) ∨ s ∈ C
  done : ∀ s, s = (from', false) ∨ s ∈ C → s ∈ R ∨ ∀ x, step W s.1 x → (x.1, s.2 || x.2) ∈ C
theorem Srch.start (W : Web) (f : Nat) : Srch W f [] [(f, false)] :=
  ⟨fun _ h => (by cases h), fun s h => .inl (List.mem_singleton.1 h), fun s h => by
    rcases h with rfl | h
    · exact .inl (List.mem_singleton.2 rfl)
    · cases h⟩
structure Look (W : Web) (from' : Nat) (C R : List Stp) (s : Stp) (j : Nat) : Prop where
  sound : ∀ s ∈ C, Pth W from' s.1 s.2
  rest : ∀ s ∈ R, s = (from', false) ∨ s ∈ C
  self : s = (from', false) ∨ s ∈ C
  done : ∀ u, u = (from', false) ∨ u ∈ C → u ≠ s → u ∈ R ∨ ∀ x, step W u.1 x → (x.1, u.2 || x.2) ∈ C
  mine : ∀ x ∈ (W.getD s.1 []).take j, (x.1, s.2 || x.2) ∈ C
section
variable {W : Web} {f : Nat} {C R : List Stp} {s : Stp} {j : Nat}
theorem Srch.look (h : Srch W f C (R ++ [s])) : Look W f C R s 0 :=
  ⟨h.sound, fun u hu => h.rest u (by simp [hu]), h.rest s (by simp), fun u hu hne => by
    rcases h.done u hu with h1 | h1
    · rcases List.mem_append.1 h1 with h1 | h1
      · exact .inl h1
      · exact absurd (List.mem_singleton.1 h1) hne
    · exact .inr h1, fun x hx => by simp at hx⟩
theorem Look.end (h : Look W f C R s j) (hj : (W.getD s.1 []).length ≤ j) : Srch W f C R := by
  refine ⟨h.sound, h.rest, fun u hu => ?_⟩
  by_cases e : u = s
  · subst e
    refine .inr fun x hx => h.mine x ?_
    rw [List.take_of_length_le hj]
    exact hx
  · exact h.done u hu e
theorem mem_take_succ {α : Type} {l : List α} {j : Nat} {x y : α} (hj : l[j]? = some y) (hx : x ∈ l.take (j + 1)) : x ∈ l.take j ∨ x = y := by
  obtain ⟨hlt, e⟩ := List.getElem?_eq_some_iff.1 hj
  rw [List.take_succ_eq_append_getElem hlt, e] at hx
  rcases List.mem_append.1 hx with h | h
  · exact .inl h
  · exact .inr (List.mem_singleton.1 h)
theorem Look.old (h : Look W f C R s j) {y : Stp} (hy : (W.getD s.1 [])[j]? = some y) (hc : (y.1, s.2 || y.2) ∈ C) : Look W f C R s (j + 1) :=
  ⟨h.sound, h.rest, h.self, h.done, fun x hx => by
    rcases mem_take_succ hy hx with hx | rfl
    · exact h.mine x hx
    · exact hc⟩
theorem Look.new (h : Look W f C R s j) {y : Stp} (hy : (W.getD s.1 [])[j]? = some y) : Look W f (C ++ [(y.1, s.2 || y.2)]) (R ++ [(y.1, s.2 || y.2)]) s (j + 1) := by
  have hstep : step W s.1 y := List.mem_of_getElem? hy
  have hp : Pth W f y.1 (s.2 || y.2) := by
    rcases h.self with rfl | hs
    · exact .one (by simpa using hstep)
    · exact .more (h.sound s hs) hstep
  refine ⟨fun u hu => ?_, fun u hu => ?_, ?_, fun u hu hne => ?_, fun x hx => ?_⟩
  · rcases List.mem_append.1 hu with hu | hu
    · exact h.sound u hu
    · rw [List.mem_singleton] at hu
      subst hu
      exact hp
  · rcases List.mem_append.1 hu with hu | hu
    · rcases h.rest u hu with h1 | h1
      · exact .inl h1
      · exact .inr (List.mem_append.2 (.inl h1))
    · exact .inr (List.mem_append.2 (.inr hu))
  · rcases h.self with h1 | h1
    · exact .inl h1
    · exact .inr (List.mem_append.2 (.inl h1))
  · by_cases hn : u = (y.1, s.2 || y.2)
    · exact .inl (by rw [hn]; simp)
    · have hu' : u = (f, false) ∨ u ∈ C := by
        rcases hu with h1 | h1
        · exact .inl h1
        · rcases List.mem_append.1 h1 with h1 | h1
          · exact .inr h1
          · exact absurd (List.mem_singleton.1 h1) hn
      rcases h.done u hu' hne with h1 | h1
      · exact .inl (List.mem_append.2 (.inl h1))
      · exact .inr fun x hx => List.mem_append.2 (.inl (h1 x hx))
  · rcases mem_take_succ hy hx with hx | rfl
    · exact List.mem_append.2 (.inl (h.mine x hx))
    · simp
theorem Srch.end (h : Srch W f C []) (k : Nat) (o : Bool) : (k, o) ∈ C ↔ Pth W f k o := by
  constructor
  · exact fun hc => h.sound _ hc
  · intro hp
    have all : ∀ s, s = (f, false) ∨ s ∈ C → ∀ x, step W s.1 x → (x.1, s.2 || x.2) ∈ C := fun s hs => by
      rcases h.done s hs with h1 | h1
      · cases h1
      · exact h1
    induction hp with
    | one hs => simpa using all (f, false) (.inl rfl) _ hs
    | more _ hs ih => exact all _ (.inr ih) _ hs
end
theorem pairs_le {n : Nat} {C : List Stp} (hd : C.Nodup) (hl : ∀ s ∈ C, s.1 < n) : C.length ≤ 2 * n := by
  have h1 : (C.map fun s => 2 * s.1 + s.2.toNat).Nodup := by
    rw [List.nodup_iff_pairwise_ne, List.pairwise_map]
    refine List.Pairwise.imp ?_ (List.nodup_iff_pairwise_ne.1 hd)
    rintro ⟨a, b⟩ ⟨c, d⟩ hne e
    apply hne
    simp only at e
    cases b <;> cases d <;> simp only [Bool.toNat] at e <;> first | (obtain rfl : a = c := by simp at e; omega) <;> rfl | (simp at e; omega)
  have h2 := length_le_of_nodup (2 * n) _ h1 fun x hx => by
    obtain ⟨s, hs, rfl⟩ := List.mem_map.1 hx
    have := hl s hs
    cases s.2 <;> simp [Bool.toNat] <;> omega
  rwa [List.length_map] at h2

def up (S : Nat → Nat) (s : Stp) : Nat := if s.2 then S s.1 + 1 else S s.1
def Low (n : Nat) (e : Nat → Nat → Int) (S : Nat → Nat) : Prop := ∀ k, k < n → S k = 0 ∨ ∃ m L, Way n e k m L ∧ S k ≤ L.length
def setS (S : Nat → Nat) (k v : Nat) : Nat → Nat := fun j => if j = k then v else S j
section
variable {W : Web} {n : Nat} {e : Nat → Nat → Int} {S : Nat → Nat}
theorem Low.start : Low n e fun _ => 0 := fun _ _ => .inl rfl
theorem Low.raise (h : Low n e S) (ht : Tied W n e) {k : Nat} {s : Stp} (hs : step W k s) : Low n e (setS S k (up S s)) := fun j hj => by
  unfold setS
  by_cases e0 : j = k
  · subst e0
    rw [if_pos rfl]
    obtain ⟨to, o⟩ := s
    obtain ⟨hi, hk⟩ := ht.lt hs
    obtain ⟨L, h1, h2⟩ := ht.way_step hs
    unfold up
    simp only
    rcases h to hk with h0 | ⟨m, M, hM, hle⟩
    · cases o with
      | false => exact .inl (by simpa using h0)
      | true => exact .inr ⟨to, L, h1, by have := h2 rfl; simp only [if_true]; omega⟩
    · refine .inr ⟨m, L ++ M, .join h1 hM, ?_⟩
      rw [List.length_append]
      cases o with
      | false => simp only [Bool.false_eq_true, if_false]; omega
      | true => have := h2 rfl; simp only [if_true]; omega
  · rw [if_neg e0]
    exact h j hj
def Still (W : Web) (S : Nat → Nat) : Prop := ∀ k s, step W k s → up S s ≤ S k
theorem Still.ways (h : Still W S) (ht : Tied W n e) {i k : Nat} {L : List Nat} (hw : Way n e i k L) : L.length + S k ≤ S i := by
  induction hw with
  | even hi hk he =>
    have := h _ _ ((ht.even _ _ hi hk).1 he).2
    simp [up] at this
    simpa using this
  | odd hi hk he =>
    have := h _ _ ((ht.odd _ _ hi hk).1 he)
    simp [up] at this
    simp only [List.length_cons, List.length_nil]
    omega
  | join _ _ ih1 ih2 =>
    rw [List.length_append]
    omega
theorem Still.is (h : Still W S) (ht : Tied W n e) (hl : Low n e S) {i : Nat} (hi : i < n) : IsStr n e i (S i) := by
  refine ⟨fun k L hw => by have := h.ways ht hw; omega, ?_⟩
  rcases hl i hi with h0 | ⟨m, L, hw, hle⟩
  · exact .inl h0
  · exact .inr ⟨m, L, hw, by have := h.ways ht hw; omega⟩
theorem Low.most (h : Low n e S) (hc : Calm n e) {k : Nat} (hk : k < n) : S k ≤ n := by
  rcases h k hk with h0 | ⟨m, L, hw, hle⟩
  · omega
  · have := hc.bound hw
    omega
def risen (n : Nat) (S : Nat → Nat) : Nat := ((List.range n).map S).sum
theorem risen_le (h : Low n e S) (hc : Calm n e) : risen n S ≤ n * n := by
  have := sum_const (List.range n) n (f := S) fun k hk => h.most hc (List.mem_range.1 hk)
  rwa [List.length_range] at this
theorem risen_set {k v : Nat} (hk : k < n) (hv : S k < v) : risen n S < risen n (setS S k v) := by
  refine sum_lt (fun j _ => ?_) (List.mem_range.2 hk) ?_
  · unfold setS
    split
    · rename_i e0; rw [e0]; omega
    · exact Nat.le_refl _
  · unfold setS
    rw [if_pos rfl]
    exact hv
end
theorem tied_of {l : List Ty} (hf : Fine l) (hw : ∀ x ∈ relsL l, x.1.2.toList.isEmpty = false) : Tied (webL (relsL l)) (items l).length (edge l) := by
  have hlen : (webL (relsL l)).length = (relsL l).length := List.length_map _
  have hn : (items l).length = (relsL l).length := (relsL_len l).symm
  have hstep : ∀ (i k : Nat) (o : Bool), step (webL (relsL l)) i (k, o) ↔ ∃ hi : i < (relsL l).length, ∃ hk : k < (relsL l).length, hangs l (relsL l)[i].1 (relsL l)[k].1 o = true := fun i k o => by
    unfold step
    by_cases hi : i < (relsL l).length
    · have e : (webL (relsL l)).getD i [] = stepsOf (relsL l) (relsL l)[i] := by
        rw [List.getD_eq_getElem?_getD, webL, List.getElem?_map, List.getElem?_eq_getElem hi]
        rfl
      rw [e, steps_hang hf hw hi]
      exact ⟨fun h => ⟨hi, h⟩, fun ⟨_, h⟩ => h⟩
    · have e : (webL (relsL l)).getD i [] = [] := by
        rw [List.getD_eq_getElem?_getD, List.getElem?_eq_none (by rw [hlen]; omega)]
        rfl
      rw [e]
      constructor
      · intro h; cases h
      · rintro ⟨h, -⟩; exact absurd h hi
  have hed : ∀ (i k : Nat) (hi : i < (relsL l).length) (hk : k < (relsL l).length), edge l i k = edgeI l (relsL l)[i].1 (relsL l)[k].1 := fun i k hi hk => by
    unfold edge
    rw [items_rels, List.getElem?_map, List.getElem?_map, List.getElem?_eq_getElem hi, List.getElem?_eq_getElem hk]
    rfl
  refine ⟨by rw [hlen, hn], fun {i k o} h => ?_, fun i k hi hk => ?_, fun i k hi hk => ?_⟩
  · obtain ⟨h1, h2, -⟩ := (hstep i k o).1 h
    rw [hn]
    exact ⟨h1, h2⟩
  · rw [hn] at hi hk
    rw [hed i k hi hk, hstep, edgeI]
    constructor
    · intro h
      refine ⟨hi, hk, ?_⟩
      cases hh : hangs l (relsL l)[i].1 (relsL l)[k].1 true with
      | true => rfl
      | false =>
        rw [hh, if_neg (by decide)] at h
        split at h <;> cases h
    · rintro ⟨q1, q2, h⟩
      rw [if_pos h]
  · rw [hn] at hi hk
    rw [hed i k hi hk, hstep, hstep, edgeI]
    constructor
    · intro h
      cases hh : hangs l (relsL l)[i].1 (relsL l)[k].1 true with
      | true => rw [hh, if_pos rfl] at h; cases h
      | false =>
        rw [hh, if_neg (by decide)] at h
        cases h0 : hangs l (relsL l)[i].1 (relsL l)[k].1 false with
        | true => exact ⟨fun ⟨_, _, h⟩ => (by rw [hh] at h; cases h), hi, hk, h0⟩
        | false => rw [h0, if_neg (by decide)] at h; cases h
    · rintro ⟨h1, q1, q2, h0⟩
      cases hh : hangs l (relsL l)[i].1 (relsL l)[k].1 true with
      | true => exact absurd ⟨hi, hk, hh⟩ h1
      | false => rw [if_neg (by decide), if_pos h0]
end Lt
end Go.Proofs.YtopncohhagebbaaGreatDoor
