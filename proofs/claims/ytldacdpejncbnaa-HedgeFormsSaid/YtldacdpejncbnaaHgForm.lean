/-
  HedgeForms, pure: what two hedges have, however their keys came there; slices.Index and slices.Contains of a list that came in; two lists of entries that are the same.
-/
import Derived.Test.YtldacdpejncbnaaHgFill
import Derived.Lib.SlicesS
namespace Go.Proofs.Ytldacdpejncbnaa
open Go.RowKit
namespace Hg
open Knot (Turns NewRow)
open Tr (IsElem own_turn own_below own_slice own_open walk_rows)

theorem idxFrom_spec (x : ByteArray) : ∀ (zs : List ByteArray) (i : Nat), x ∈ zs → ∃ k, k < zs.length ∧ zs[k]? = some x ∧ Lib.idxFromS zs x i = ((i + k : Nat) : Int) ∧ ∀ j, j < k → zs[j]? ≠ some x
  | [], _, h => by cases h
  | z :: zs, i, h => by
    by_cases hz : z = x
    · exact ⟨0, by simp, by simp [hz], by simp [Lib.idxFromS, hz], fun j hj => by omega⟩
    · obtain ⟨k, h1, h2, h3, h4⟩ := idxFrom_spec x zs (i + 1) (by
        rcases List.mem_cons.1 h with e | h
        · exact absurd e.symm hz
        · exact h)
      refine ⟨k + 1, by simpa using h1, by simpa using h2, by rw [Lib.idxFromS, if_neg hz, h3]; congr 1; omega, fun j hj => ?_⟩
      cases j with
      | zero => simpa using hz
      | succ j => simpa using h4 j (by omega)
theorem idx_spec {zs : List ByteArray} {x : ByteArray} (h : x ∈ zs) : ∃ k, k < zs.length ∧ zs[k]? = some x ∧ Lib.idxOfS zs x = (k : Int) ∧ ∀ j, j < k → zs[j]? ≠ some x := by
  obtain ⟨k, h1, h2, h3, h4⟩ := idxFrom_spec x zs 0 h
  exact ⟨k, h1, h2, by rw [Lib.idxOfS, h3, Nat.zero_add], h4⟩
theorem idx_any {w : World} {v : Value} {l : List ByteArray} (h : IsTx w v l) (hl : l.length ≤ 100000) (x : ByteArray) : Calls Try.prog 22 #[v, .string x] w fun e w' => e = .returned (.int .i64 (Lib.idxOfS l x)) ∧ w' = w := by
  obtain ⟨ao, cap, rfl, hc⟩ := h
  by_cases hn : l = []
  · subst hn
    exact Try.slices_Index_string_empty ao cap x w
  · obtain ⟨b, o, rfl, hx⟩ := hc hn
    have := Try.slices_Index_string b o l.length cap l x w (Nat.le_refl _) (by omega) (fun j hj => by rw [hx j hj, List.getD, List.getElem?_eq_getElem hj, Option.getD_some])
    rwa [List.take_length] at this
theorem contains_any {w : World} {v : Value} {l : List ByteArray} (h : IsTx w v l) (hl : l.length ≤ 100000) (x : ByteArray) : Calls Try.prog 23 #[v, .string x] w fun e w' => e = .returned (.bool (Lib.containsS l x)) ∧ w' = w := by
  obtain ⟨ao, cap, rfl, hc⟩ := h
  by_cases hn : l = []
  · subst hn
    exact Try.slices_Contains_string_empty ao cap x w
  · obtain ⟨b, o, rfl, hx⟩ := hc hn
    have := Try.slices_Contains_string b o l.length cap l x w (Nat.le_refl _) (by omega) (fun j hj => by rw [hx j hj, List.getD, List.getElem?_eq_getElem hj, Option.getD_some])
    rwa [List.take_length] at this
set_option maxHeartbeats 4000000 in
set_option maxRecDepth 100000 in
theorem equal_any {w : World} {va vb : Value} {L : List Ent} (ha : Ro tEn w va L) (hb : Ro tEn w vb L) (hl : L.length ≤ 100000) :
    Calls Try.prog 24 #[va, vb] w fun e x => e = .returned (.bool true) ∧ Below w.heap.size w x := by
  obtain ⟨ao, cap, rfl⟩ := ha.slice
  obtain ⟨bo, cbp, rfl⟩ := hb.slice
  have HH := Lib.hid (And.intro ha hb)
  clear ha hb
  go_enter Try.func24, Try.ntmps24
  go_wp2_with fail
  go_loopw [13] (fun i wr => ∃ (j : Nat), j ≤ L.length ∧ i = .int .i64 (j : Int) ∧ Hid (Below w.heap.size w wr)) (fun i _ => L.length - (intOf i).toNat)
  case atStart => exact ⟨0, Nat.zero_le _, rfl, Lib.hid (Below.refl _ _)⟩
  case round =>
    obtain ⟨j, hj, rfl, HB⟩ := hrel
    by_cases hlt : j < L.length
    · obtain ⟨g, cp, he, -, q1, q2⟩ := (HH.out.1.on HB.out).at hlt
      obtain ⟨rfl, -, rfl⟩ := Value.slice.inj he
      obtain ⟨g2, cp2, he2, -, q3, q4⟩ := (HH.out.2.on HB.out).at hlt
      obtain ⟨rfl, -, rfl⟩ := Value.slice.inj he2
      have hi := idxE (g := g) (n := L.length) (cap := cap) hlt
      have hi2 := idxE (g := g2) (n := L.length) (cap := cbp) hlt
      obtain ⟨key, hkey⟩ : ∃ s, s = L[j].1 := ⟨_, rfl⟩
      obtain ⟨num, hnum⟩ : ∃ s, s = L[j].2 := ⟨_, rfl⟩
      rw [← hkey] at q1 q3
      rw [← hnum] at q2 q4
      have heq := en_same key num
      clear hkey hnum
      go_wp2_with fail
      go_quiet (fail)
      have HN := Lib.hid (below_drewN HB.out nq)
      go_wp2_with fail
      go_roundw
      case rel => exact ⟨j + 1, by omega, by go_num, HN⟩
      case measure => simp [intOf]; omega
    · go_wp2_with fail
      go_ret
      exact ⟨rfl, HB.out⟩
/-- Something done to a list again and again. -/
def doN (L0 : List Ent) (g : Nat → List Ent → List Ent) : Nat → List Ent
  | 0 => L0
  | j + 1 => g j (doN L0 g j)
theorem doN_rises {L0 : List Ent} {g : Nat → List Ent → List Ent} (h : Rises L0) (hg : ∀ j L, Rises L → Rises (g j L)) : ∀ j, Rises (doN L0 g j)
  | 0 => h
  | j + 1 => hg j _ (doN_rises h hg j)
theorem doN_len {L0 : List Ent} {g : Nat → List Ent → List Ent} (h : Rises L0) (hg : ∀ j L, Rises L → Rises (g j L)) (hn : ∀ j L, Rises L → (g j L).length ≤ L.length + 1) : ∀ j, (doN L0 g j).length ≤ L0.length + j
  | 0 => Nat.le_refl _
  | j + 1 => by
    have h1 := doN_len h hg hn j
    have h2 := hn j _ (doN_rises h hg j)
    rw [doN]
    omega
theorem put_le {L : List Ent} (h : Rises L) (k : ByteArray) (a : Int) : (put L k a).length ≤ L.length + 1 := by
  rw [put_len h]; split <;> omega
/-- The first hedge. -/
def gA (keys : List ByteArray) (j : Nat) (L : List Ent) : List Ent := match keys[j]? with
  | some s => if Lib.idxOfS keys s = (j : Int) then put L s (j : Int) else L
  | none => L
def gB (more : List ByteArray) (j : Nat) (L : List Ent) : List Ent := match more[j]? with
  | some s => put L s (-1)
  | none => L
def gC (keys : List ByteArray) (k j : Nat) (L : List Ent) : List Ent := match keys[(j + k) % keys.length]? with
  | some s => put L s (Lib.idxOfS keys s)
  | none => L
def gD (keys more : List ByteArray) (j : Nat) (L : List Ent) : List Ent := match more[j]? with
  | some s => if Lib.containsS keys s = true then L else drop L s
  | none => L
theorem gA_rises (keys : List ByteArray) (j : Nat) (L : List Ent) (h : Rises L) : Rises (gA keys j L) ∧ (gA keys j L).length ≤ L.length + 1 := by
  unfold gA
  split
  · split
    · exact ⟨h.put _ _, put_le h _ _⟩
    · exact ⟨h, Nat.le_succ _⟩
  · exact ⟨h, Nat.le_succ _⟩
theorem gB_rises (more : List ByteArray) (j : Nat) (L : List Ent) (h : Rises L) : Rises (gB more j L) ∧ (gB more j L).length ≤ L.length + 1 := by
  unfold gB
  split
  · exact ⟨h.put _ _, put_le h _ _⟩
  · exact ⟨h, Nat.le_succ _⟩
theorem gC_rises (keys : List ByteArray) (k j : Nat) (L : List Ent) (h : Rises L) : Rises (gC keys k j L) ∧ (gC keys k j L).length ≤ L.length + 1 := by
  unfold gC
  split
  · exact ⟨h.put _ _, put_le h _ _⟩
  · exact ⟨h, Nat.le_succ _⟩
theorem gD_rises (keys more : List ByteArray) (j : Nat) (L : List Ent) (h : Rises L) : Rises (gD keys more j L) ∧ (gD keys more j L).length ≤ L.length + 1 := by
  unfold gD
  split
  · split
    · exact ⟨h, Nat.le_succ _⟩
    · exact ⟨h.drop _, Nat.le_trans (drop_len _ _) (Nat.le_succ _)⟩
  · exact ⟨h, Nat.le_succ _⟩
theorem nth_take {l : List ByteArray} {j : Nat} {q : ByteArray} : q ∈ l.take (j + 1) ↔ q ∈ l.take j ∨ l[j]? = some q := by
  constructor
  · intro h
    obtain ⟨i, hi⟩ := List.getElem?_of_mem h
    rw [List.getElem?_take] at hi
    split at hi
    · by_cases e : i = j
      · exact .inr (e ▸ hi)
      · refine .inl (List.mem_of_getElem? (i := i) ?_)
        rw [List.getElem?_take, if_pos (by omega)]
        exact hi
    · cases hi
  · rintro (h | h)
    · obtain ⟨i, hi⟩ := List.getElem?_of_mem h
      rw [List.getElem?_take] at hi
      split at hi
      · refine List.mem_of_getElem? (i := i) ?_
        rw [List.getElem?_take, if_pos (by omega)]
        exact hi
      · cases hi
    · refine List.mem_of_getElem? (i := j) ?_
      rw [List.getElem?_take, if_pos (by omega)]
      exact h
open Classical in
theorem get_A (keys : List ByteArray) (q : ByteArray) : ∀ j, j ≤ keys.length → get (doN [] (gA keys) j) q = if q ∈ keys.take j then some (Lib.idxOfS keys q) else none
  | 0, _ => by rw [doN, List.take_zero, if_neg (by simp)]; rfl
  | j + 1, hj => by
    have ih := get_A keys q j (by omega)
    have hr := doN_rises (g := gA keys) (L0 := []) List.Pairwise.nil (fun j L h => (gA_rises keys j L h).1) j
    have hs : keys[j]? = some keys[j] := List.getElem?_eq_getElem (by omega)
    rw [doN, gA, hs]
    simp only
    obtain ⟨i, h1, h2, h3, h4⟩ := idx_spec (zs := keys) (x := keys[j]) (List.getElem_mem _)
    have hij : i ≤ j := by
      rcases Nat.lt_or_ge j i with h | h
      · exact absurd hs (h4 j h)
      · exact h
    by_cases c : i = j
    · subst c
      rw [if_pos h3, get_put hr, ih]
      by_cases e : q = keys[i]
      · rw [if_pos e, if_pos (nth_take.2 (.inr (by rw [hs, e]))), e, h3]
      · rw [if_neg e]
        by_cases m : q ∈ keys.take i
        · rw [if_pos m, if_pos (nth_take.2 (.inl m))]
        · rw [if_neg m, if_neg fun m' => (nth_take.1 m').elim m fun h => e (by rw [hs] at h; exact (Option.some.inj h).symm)]
    · rw [if_neg (by rw [h3]; omega), ih]
      by_cases m : q ∈ keys.take j
      · rw [if_pos m, if_pos (nth_take.2 (.inl m))]
      · rw [if_neg m, if_neg fun m' => (nth_take.1 m').elim m fun h => m ?_]
        rw [hs] at h
        refine List.mem_of_getElem? (i := i) ?_
        rw [List.getElem?_take, if_pos (by omega), h2]
        exact h
open Classical in
theorem get_B (more : List ByteArray) (q : ByteArray) : ∀ j, j ≤ more.length → get (doN [] (gB more) j) q = if q ∈ more.take j then some (-1) else none
  | 0, _ => by rw [doN, List.take_zero, if_neg (by simp)]; rfl
  | j + 1, hj => by
    have ih := get_B more q j (by omega)
    have hr := doN_rises (g := gB more) (L0 := []) List.Pairwise.nil (fun j L h => (gB_rises more j L h).1) j
    have hs : more[j]? = some more[j] := List.getElem?_eq_getElem (by omega)
    rw [doN, gB, hs]
    simp only
    rw [get_put hr, ih]
    by_cases e : q = more[j]
    · rw [if_pos e, if_pos (nth_take.2 (.inr (by rw [hs, e])))]
    · rw [if_neg e]
      by_cases m : q ∈ more.take j
      · rw [if_pos m, if_pos (nth_take.2 (.inl m))]
      · rw [if_neg m, if_neg fun m' => (nth_take.1 m').elim m fun h => e (by rw [hs] at h; exact (Option.some.inj h).symm)]
/-- Whether a key was among the first ones, from a place on, round. -/
def seen (keys : List ByteArray) (k j : Nat) (q : ByteArray) : Prop := ∃ i, i < j ∧ keys[(i + k) % keys.length]? = some q
theorem get_C (keys : List ByteArray) (L0 : List Ent) (h0 : Rises L0) (k : Nat) (q : ByteArray) : ∀ j, (seen keys k j q → get (doN L0 (gC keys k) j) q = some (Lib.idxOfS keys q)) ∧ (¬ seen keys k j q → get (doN L0 (gC keys k) j) q = get L0 q)
  | 0 => ⟨fun ⟨i, h, _⟩ => by omega, fun _ => rfl⟩
  | j + 1 => by
    obtain ⟨i1, i2⟩ := get_C keys L0 h0 k q j
    have hr := doN_rises (g := gC keys k) h0 (fun j L h => (gC_rises keys k j L h).1) j
    rw [doN, gC]
    cases hs : keys[(j + k) % keys.length]? with
    | none =>
      have e : seen keys k (j + 1) q ↔ seen keys k j q := ⟨fun ⟨i, h, h'⟩ => by
        by_cases c : i = j
        · subst c; rw [hs] at h'; cases h'
        · exact ⟨i, by omega, h'⟩, fun ⟨i, h, h'⟩ => ⟨i, by omega, h'⟩⟩
      rw [e]
      exact ⟨i1, i2⟩
    | some s =>
      simp only
      rw [get_put hr]
      by_cases c : q = s
      · rw [if_pos c]
        exact ⟨fun _ => by rw [c], fun h => absurd ⟨j, by omega, by rw [hs, c]⟩ h⟩
      · rw [if_neg c]
        refine ⟨fun ⟨i, h, h'⟩ => i1 ?_, fun h => i2 fun ⟨i, hi, h'⟩ => h ⟨i, by omega, h'⟩⟩
        by_cases e : i = j
        · subst e; rw [hs] at h'; exact absurd (Option.some.inj h').symm c
        · exact ⟨i, by omega, h'⟩
theorem seen_all {keys : List ByteArray} {k : Nat} (hk : k < keys.length) (q : ByteArray) : seen keys k keys.length q ↔ q ∈ keys := by
  constructor
  · rintro ⟨i, -, h⟩
    exact List.mem_of_getElem? h
  · intro h
    obtain ⟨i, hi⟩ := List.getElem?_of_mem h
    have hil := (List.getElem?_eq_some_iff.1 hi).1
    refine ⟨(i + keys.length - k) % keys.length, Nat.mod_lt _ (by omega), ?_⟩
    have e : ((i + keys.length - k) % keys.length + k) % keys.length = i := by
      rw [Nat.mod_add_mod, show i + keys.length - k + k = i + keys.length by omega, Nat.add_mod_right, Nat.mod_eq_of_lt hil]
    rw [e]
    exact hi
open Classical in
theorem get_D (keys more : List ByteArray) (L0 : List Ent) (h0 : Rises L0) (q : ByteArray) : ∀ j, get (doN L0 (gD keys more) j) q = if q ∈ more.take j ∧ q ∉ keys then none else get L0 q
  | 0 => by rw [doN, List.take_zero, if_neg (by simp)]
  | j + 1 => by
    have ih := get_D keys more L0 h0 q j
    have hr := doN_rises (g := gD keys more) h0 (fun j L h => (gD_rises keys more j L h).1) j
    rw [doN, gD]
    cases hs : more[j]? with
    | none =>
      simp only
      rw [ih, show more.take (j + 1) = more.take j from by
        have hl : more.length ≤ j := List.getElem?_eq_none_iff.1 hs
        rw [List.take_of_length_le (by omega), List.take_of_length_le hl]]
    | some s =>
      simp only
      by_cases c : Lib.containsS keys s = true
      · rw [if_pos c, ih]
        have hm : (q ∈ more.take (j + 1) ∧ q ∉ keys) ↔ (q ∈ more.take j ∧ q ∉ keys) := ⟨fun ⟨a, b⟩ => ⟨(nth_take.1 a).elim id fun h => absurd ((Lib.containsS_iff keys s).1 c) (by rw [hs] at h; rw [Option.some.inj h]; exact b), b⟩, fun ⟨a, b⟩ => ⟨nth_take.2 (.inl a), b⟩⟩
        by_cases m : q ∈ more.take j ∧ q ∉ keys
        · rw [if_pos m, if_pos (hm.2 m)]
        · rw [if_neg m, if_neg fun h => m (hm.1 h)]
      · rw [if_neg c, get_drop hr, ih]
        have hsk : s ∉ keys := fun h => c ((Lib.containsS_iff keys s).2 h)
        by_cases e : q = s
        · rw [if_pos e, if_pos ⟨nth_take.2 (.inr (by rw [hs, e])), e ▸ hsk⟩]
        · rw [if_neg e]
          have hm : (q ∈ more.take (j + 1) ∧ q ∉ keys) ↔ (q ∈ more.take j ∧ q ∉ keys) := ⟨fun ⟨a, b⟩ => ⟨(nth_take.1 a).elim id fun h => absurd (Option.some.inj (hs.symm.trans h)).symm e, b⟩, fun ⟨a, b⟩ => ⟨nth_take.2 (.inl a), b⟩⟩
          by_cases m : q ∈ more.take j ∧ q ∉ keys
          · rw [if_pos m, if_pos (hm.2 m)]
          · rw [if_neg m, if_neg fun h => m (hm.1 h)]
open Classical in
/-- Both have the same. -/
theorem forms_one (keys more : List ByteArray) {k : Nat} (hk : k < keys.length) :
    doN (doN (doN [] (gB more) more.length) (gC keys k) keys.length) (gD keys more) more.length = doN [] (gA keys) keys.length := by
  have rB := doN_rises (g := gB more) (L0 := []) List.Pairwise.nil (fun j L h => (gB_rises more j L h).1) more.length
  have rC := doN_rises (g := gC keys k) rB (fun j L h => (gC_rises keys k j L h).1) keys.length
  have rD := doN_rises (g := gD keys more) rC (fun j L h => (gD_rises keys more j L h).1) more.length
  have rA := doN_rises (g := gA keys) (L0 := []) List.Pairwise.nil (fun j L h => (gA_rises keys j L h).1) keys.length
  refine rD.one rA fun q => ?_
  rw [get_D keys more _ rC, get_A keys q _ (Nat.le_refl _), List.take_length, List.take_length]
  obtain ⟨c1, c2⟩ := get_C keys _ rB k q keys.length
  rw [seen_all hk] at c1 c2
  by_cases m : q ∈ keys
  · rw [if_neg (by simp [m]), if_pos m, c1 m]
  · rw [if_neg m, c2 m, get_B more q _ (Nat.le_refl _), List.take_length]
    by_cases m2 : q ∈ more
    · rw [if_pos ⟨m2, m⟩]
    · rw [if_neg (fun h => m2 h.1), if_neg m2]
end Hg
end Go.Proofs.Ytldacdpejncbnaa
