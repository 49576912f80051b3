/-
  Layer 13's statements: lists of records that go through appends; what becomes of a spool, act by act.
-/
import Derived.Test.YtdodmjcbjknneaaSpActs
import Derived.Test.YtdodmjcbjknneaaSpLink
namespace Go.Proofs.Ytdodmjcbjknneaa
set_option maxRecDepth 100000
open Go.RowKit
open Knot (Turns NewRow)
open Ta (IsBytes Stay sec nul ptr IsT Tray)
open Tr (own_turn own_below own_slice IsElem append_rows addp)
namespace Sp
section
variable {x0 x y : World} {B : Nat} {G G' : Nat → Prop} {v v2 : Value} {L M : List (List UInt8)}
/-- Blocks of G turn, among which the row isn't. -/
theorem Recs.go (h : Recs B G x v L) (ht : Turns G x y) (hr : ∀ k, v.ownBlock = some k → ¬ G k) (hG : ∀ k, k < x.heap.size → G' k → G k) : Recs B G' y v L := by
  obtain ⟨vs, h1, h2⟩ := h
  refine ⟨vs, own_turn h1 ht hr, fun i hi => ?_⟩
  obtain ⟨u, hu, hs⟩ := h2 i hi
  exact ⟨u, hu, hs.grow (ht.mono fun _ _ h => .inl h) fun k hk h => h.imp (hG k hk) id⟩
theorem Recs.row_lt (h : Recs B G x v L) {k : Nat} (hk : v.ownBlock = some k) : B ≤ k ∧ k < x.heap.size := by
  obtain ⟨vs, h1, -⟩ := h
  exact h1.lt k hk
theorem Recs.base (h : Recs B G x v L) {B' : Nat} (hB : B' ≤ B) : Recs B' G x v L := by
  obtain ⟨vs, h1, h2⟩ := h
  exact ⟨vs, Ta.own_base h1 hB, h2⟩
/-- A list in a row of its own, made since x0, whose records lie in what was there. -/
def More (x0 x : World) (v : Value) (L : List (List UInt8)) : Prop :=
  Below x0.heap.size x0 x ∧ ∃ vs, x.ownsRow x0.heap.size tBs 1 v L.length vs ∧ ∀ (i : Nat) (h : i < L.length), ∃ u, vs[i]? = some u ∧ IsBytes x0 u L[i]
theorem More.is (h : More x0 x v L) : IsRecs x v L := by
  obtain ⟨hb, vs, h1, h2⟩ := h
  rcases h1.2 with ⟨rfl, h0⟩ | ⟨g, cap, cur, rfl, -, hg, hn, hc, hs, ht⟩
  · obtain rfl : L = [] := List.eq_nil_of_length_eq_zero h0
    exact ⟨none, 0, rfl, Nat.le_refl _, Nat.zero_le _, fun h => absurd rfl h⟩
  · refine ⟨_, cap, rfl, hn, hc, fun _ => ⟨g, 0, rfl, fun i hi => ?_⟩⟩
    obtain ⟨u, hu, hst⟩ := h2 i hi
    have hr : x.ownsRow x0.heap.size tBs 1 (.slice (some ⟨g, 0, none⟩) L.length cap) L.length vs := h1
    have h3 := hr.cellAt i (by omega)
    refine ⟨u, ?_, Ta.IsBytes.below hst hb⟩
    rw [Nat.zero_add, h3]
    exact hu
theorem IsRecs.vals (h : IsRecs x0 v M) : ∃ us : List Value, us.length = M.length ∧ (∀ (i : Nat) (h : i < M.length), ∃ u, us[i]? = some u ∧ IsBytes x0 u M[i]) ∧ (∀ u ∈ us, u.oneCell' = true) ∧ (M ≠ [] → ∃ g o c, v = .slice (some ⟨g, o, none⟩) M.length c ∧ ∀ j u, us[j]? = some u → x0.cell? ⟨g, o + j, none⟩ = some u) := by
  obtain ⟨ao, cap, rfl, h1, h2, h3⟩ := h
  by_cases hm : M = []
  · subst hm
    exact ⟨[], rfl, fun i h => by simp at h, fun u h => by simp at h, fun h => absurd rfl h⟩
  · obtain ⟨g, o, rfl, hc⟩ := h3 hm
    refine ⟨List.ofFn fun i : Fin M.length => Classical.choose (hc i.1 i.2), by simp, fun i hi => ⟨_, by rw [List.getElem?_eq_getElem (by simpa using hi)]; simp, (Classical.choose_spec (hc i hi)).2⟩, fun u hu => ?_, fun _ => ⟨g, o, cap, rfl, fun j u hj => ?_⟩⟩
    · obtain ⟨i, rfl⟩ := List.mem_ofFn.1 hu
      obtain ⟨a, c, e, -⟩ := (Classical.choose_spec (hc i.1 i.2)).2
      rw [e]
      rfl
    · have hj' : j < M.length := by have := (List.getElem?_eq_some_iff.1 hj).1; simpa using this
      rw [List.getElem?_eq_getElem (by simpa using hj')] at hj
      simp at hj
      rw [← hj]
      exact (Classical.choose_spec (hc j hj')).1
theorem more_append (h : More x0 x v L) (h2 : IsRecs x0 v2 M) (ty : TypeId) (hz : L.length + M.length ≤ 1000000) :
    ∃ v' y, (Builtin.append_ #[tBss, tBss] ty #[v, v2]).run Try.prog x = .ok v' y ∧ More x0 y v' (L ++ M) := by
  obtain ⟨hb, vs, h1, h3⟩ := h
  obtain ⟨i, z, bb, T, hbb⟩ := recElem
  obtain ⟨us, u1, u2, u3, u4⟩ := h2.vals
  have hvl : vs.length = L.length := by have := h1.1; omega
  by_cases hm : M = []
  · subst hm
    rw [List.append_nil]
    obtain ⟨ao, cap, rfl, -, -, -⟩ := h2
    cases ao with
    | none => exact ⟨v, x, Ta.append_nil T ty h1 (by omega), hb, vs, h1, h3⟩
    | some a =>
      obtain ⟨v', y, hr, o5, g5, -⟩ := append_rows T ty h1 hb.size (m := 0) (news := []) (ad := a) (c := cap) rfl (fun j u hj => by simp at hj) (fun u hu => by simp at hu) (by omega) (Nat.le_trans (Nat.mul_le_mul_left _ hbb) (by omega))
      rw [List.append_nil] at o5
      exact ⟨v', y, hr, hb.grown g5 hb.size fun k hk => (h1.lt k hk).1, vs, o5, h3⟩
  · obtain ⟨g, o, c, rfl, hc⟩ := u4 hm
    obtain ⟨v', y, hr, o5, g5, -⟩ := append_rows T ty h1 hb.size (m := M.length) (news := us) (ad := ⟨g, o, none⟩) (c := c) (by omega) (fun j u hj => by
      rw [addp]
      have := hc j u hj
      exact (hb.cell (World.block_lt_of_cell? x0 _ this)).trans this) u3 (by omega) (Nat.le_trans (Nat.mul_le_mul_left _ hbb) (by omega))
    refine ⟨v', y, hr, hb.grown g5 hb.size fun k hk => (h1.lt k hk).1, vs ++ us, by rw [List.length_append]; exact o5, fun i hi => ?_⟩
    rw [List.length_append] at hi
    by_cases hlt : i < L.length
    · obtain ⟨u, hu, hs⟩ := h3 i hlt
      exact ⟨u, by rw [List.getElem?_append_left (by omega)]; exact hu, by rw [List.getElem_append_left hlt]; exact hs⟩
    · obtain ⟨u, hu, hs⟩ := u2 (i - L.length) (by omega)
      exact ⟨u, by rw [List.getElem?_append_right (by omega), hvl]; exact hu, by rw [List.getElem_append_right (by omega)]; exact hs⟩
theorem walk_more {ops : Array Oper} {rest : List Oper} {o : Oper} {a : Go.Act} {Q : Exit → Go.Act → World → Prop} (hgd : o.guard = none) (s q : Operand) (ho : o.op = .call { callee := .builtin .append, args := #[s, q], argTypes := #[tBss, tBss] })
    (hs : a.eval s = v) (hq : a.eval q = v2) (h : More x0 x v L) (h2 : IsRecs x0 v2 M) (hz : L.length + M.length ≤ 1000000)
    (hK : ∀ v' y, More x0 y v' (L ++ M) → wpList Try.prog ops Q rest (a.put o.dst v') y) : wpList Try.prog ops Q (o :: rest) a x := by
  refine wpList_plain hgd fun K hK' => ?_
  obtain ⟨r', y, hr, h3⟩ := more_append h h2 o.type hz
  unfold Oper.wp execOp
  simp only [ho, resolve, invoke, builtin, Sem.run_bind, Sem.run_pure, Result.andThen_ok, List.map_toArray, List.map_cons, List.map_nil, hs, hq, hr]
  exact hK' _ _ (hK r' y h3)
theorem empty_recs (W : World) : (Instr.buildSlice tBss 0 #[]).run Try.prog W = .ok (.slice (some ⟨W.heap.size, 0, none⟩) 0 0) (W.alloc (.cells #[] tBs)) := by kernel_rfl
theorem more_empty (x0 : World) : More x0 (x0.alloc (.cells #[] tBs)) (.slice (some ⟨x0.heap.size, 0, none⟩) 0 0) [] :=
  ⟨(Below.refl _ _).alloc (Nat.le_refl _) _, [], World.ownsRow_made x0 #[] 0 (Nat.le_refl _) (by unfold maxLen; omega) rfl, fun i h => by simp at h⟩
end
/-- What comes of an append, where all is well. -/
theorem Live.cases {t : Tray (List UInt8)} {s : S} {r : List (List UInt8 × Nat)} {b : List UInt8} (h : Live t s r) (hb : b.length ≤ 60000) (hl : ∀ k, (rdS (append s b t).1 s k).length = 128) :
    append s b t = (t, s, 3) ∨ ((append s b t).2 = ({ s with tail := s.tail + parts b.length }, 0) ∧ Live (append s b t).1 { s with tail := s.tail + parts b.length } (r ++ [(b, s.epoch)])) ∨ ((append s b t).2 = ({ s with dead := true }, 20) ∧ Torn (append s b t).1 { s with dead := true } r b) := by
  by_cases hf : s.count + s.head < parts b.length + s.tail
  · exact .inl (append_full (by omega) hf)
  · cases hw : (wrote s b (parts b.length) t).2 with
    | true =>
      have e := append_goes (by omega) hf h.dead hw
      rw [e] at hl ⊢
      exact .inr (.inl ⟨rfl, h.goes hb hl (by omega) hw⟩)
    | false =>
      have e := append_stops (by omega) hf h.dead hw
      rw [e]
      exact .inr (.inr ⟨rfl, h.stops hb (by omega) hw⟩)
theorem Live.power {t : Tray (List UInt8)} {s : S} {r : List (List UInt8 × Nat)} (h : Live t s r) (z : Int) : Live (t.power z) s r := ⟨h.cache, h.dead, h.inv, h.calm, h.small⟩
theorem calm_next {rd : Nat → List UInt8} {tail E : Nat} (ho : ∀ k, Origin tail E (rd k)) {tail' : Nat} : Calm rd tail' (E + 1) := fun k m j o own hs => by
  rcases ho k with g1 | ⟨e', m', j', o', own', g1, g2, g3, g4⟩
  · exact absurd g1 hs.ne_nul
  · have := (hs.inj g1).1
    omega
/-- Opened again, behind a loss of power. -/
theorem Live.reopen {t : Tray (List UInt8)} {s : S} {r : List (List UInt8 × Nat)} (h : Live t s r) (hE : s.epoch + 1 ≤ 4294967295) (ch : List Bool) :
    found (t.lose ch) ⟨s.first, s.count, s.head, s.head, s.epoch + 1, false⟩ = (r.map Prod.fst, s.tail) ∧ Live (t.lose ch) ⟨s.first, s.count, s.head, s.tail, s.epoch + 1, false⟩ r := by
  obtain ⟨h1, h2, h3⟩ := h.again hE (rd := rdS (t.lose ch) s) (h.lost ch)
  exact ⟨h1, rfl, rfl, h2, h3, h.small⟩
theorem Torn.reopen {t : Tray (List UInt8)} {s : S} {r : List (List UInt8 × Nat)} {b : List UInt8} (h : Torn t s r b) (hE : s.epoch + 1 ≤ 4294967295) (ch : List Bool) (hl : ∀ k, (rdS (t.lose ch) s k).length = 128) :
    (found (t.lose ch) ⟨s.first, s.count, s.head, s.head, s.epoch + 1, false⟩ = (r.map Prod.fst, s.tail) ∧ Live (t.lose ch) ⟨s.first, s.count, s.head, s.tail, s.epoch + 1, false⟩ r) ∨
      (found (t.lose ch) ⟨s.first, s.count, s.head, s.head, s.epoch + 1, false⟩ = ((r ++ [(b, s.epoch)]).map Prod.fst, s.tail + parts b.length) ∧ Live (t.lose ch) ⟨s.first, s.count, s.head, s.tail + parts b.length, s.epoch + 1, false⟩ (r ++ [(b, s.epoch)])) := by
  obtain ⟨rd, hi, hc, ho⟩ := h.was
  have hor : ∀ k, Origin s.tail s.epoch (rdS (t.lose ch) s k) := fun k => by
    rcases ho ch k with h1 | ⟨i, hi', -, h2⟩
    · rw [h1]; exact hi.origin k
    · exact .inr ⟨s.epoch, s.tail + i, i, parts b.length, chunk b i, h2 ▸ new_sct hi.epoch h.len (Nat.le_trans hi.room hi.far) hi', by omega, by omega, Nat.le_refl _⟩
  rcases hi.opened hc h.len h.fits (ho ch) hl hE h.small.2 s.count (Nat.le_refl _) with ⟨g1, g2⟩ | ⟨g1, g2⟩
  · exact .inl ⟨g1, rfl, rfl, g2, calm_next hor, h.small⟩
  · exact .inr ⟨g1, rfl, rfl, g2, calm_next hor, h.small⟩
end Sp
end Go.Proofs.Ytdodmjcbjknneaa
