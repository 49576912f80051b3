/-
  Layer 8: a configuration as an argument: its lists lie in memory, its names are no longer than memory, and no list has more things than the argument's bulk.
-/
import Derived.Test.YtopncohhagebbaaGreatDoorTrArg
import Derived.Test.YtopncohhagebbaaGreatDoorCnRGood
import Derived.Test.YtopncohhagebbaaGreatDoorRows
namespace Go.Proofs.YtopncohhagebbaaGreatDoor
open Go.ChangeShapes Go.WideShapes Go.ChangeAt Go.RowKit Go.Joins Go.Deep
namespace Cn
open Tr (Nd IsNode node4 none0)
open Gr (Al Rl Ty IsAl IsRl IsTy IsCf Lies alV relV tyV tAl tRl tTy tCf)

theorem cellsAl : Tryz.prog.cellsOf 43 = 3 := by kernel_rfl
theorem cellsRl : Tryz.prog.cellsOf 49 = 6 := by kernel_rfl
theorem cellsLa : Tryz.prog.cellsOf 44 = 1 := by kernel_rfl
theorem cellsLr : Tryz.prog.cellsOf 38 = 1 := by kernel_rfl
theorem cellsBo : Tryz.prog.cellsOf 4 = 1 := by kernel_rfl
instance : Inhabited Al := ⟨⟨none0, none0, false⟩⟩
instance : Inhabited Rl := ⟨⟨none0, [], .mk 0 none0 none0 []⟩⟩
instance : Inhabited Ty := ⟨⟨none0, []⟩⟩

section
variable {H : Type} {enc : TypeId × Value → H} {W : World} {base : Nat} {spare : Nat → Bool} {held : Bool}
theorem bulk_pos (d : DataW H) : 1 ≤ Rows.uptoBulk d := by
  cases d with
  | lit x => cases x <;> simp [Rows.uptoBulk]
  | _ => simp [Rows.uptoBulk]
theorem bulk_mem : ∀ {ds : List (DataW H)} {d : DataW H}, d ∈ ds → Rows.uptoBulk d ≤ Rows.uptoBulkAll ds
  | e :: ds, d, h => by
    rw [Rows.uptoBulkAll]
    rcases List.mem_cons.1 h with rfl | h
    · omega
    · have := bulk_mem h; omega
theorem bulk_len : ∀ (ds : List (DataW H)), ds.length ≤ Rows.uptoBulkAll ds
  | [] => Nat.zero_le _
  | e :: ds => by
    rw [Rows.uptoBulkAll, List.length_cons]
    have := bulk_len ds
    have := bulk_pos e
    omega
theorem lies_arg {α : Type} [Inhabited α] {T e : TypeId} {c fuel : Nat} {cs : List Value} {x : DataW H × List MemPlace} (ht : Tryz.prog.underlying T = some (.slice e)) (hc : Tryz.prog.cellsOf e = c) (h0 : 0 < c) {P : World → α → Value → Prop} {K : α → Nat → Prop}
    (one : ∀ n cs y, cs.length = c → DataW.trod enc Tryz.prog W base spare held n e cs = some y → ∃ a, P W a (.agg cs.toArray) ∧ K a (Rows.uptoBulk y.1)) (h : DataW.trod enc Tryz.prog W base spare held fuel T cs = some x) :
    ∃ ao cap l us, cs = [.slice ao l.length cap] ∧ Lies P c W ao l us ∧ (∀ a ∈ l, ∃ m, K a m ∧ m ≤ Rows.uptoBulk x.1) ∧ l.length ≤ Rows.uptoBulk x.1 := by
  rcases open_slice ht h with ⟨rfl, -⟩ | ⟨a, len, cap, m, n, D, Pl, rfl, -, hl, hm, hmm, rfl, hi⟩
  · exact ⟨none, 0, [], [], rfl, ⟨rfl, Nat.zero_le _, fun h => absurd rfl h, fun i a u h => by simp at h⟩, fun a h => by simp at h, Nat.zero_le _⟩
  · have hle : len ≤ m := by rw [hmm]; split <;> omega
    obtain ⟨f, hff⟩ := choose_lt (α := α × List Value) (n := len) (p := fun i q => q.2.length = c ∧ (∀ j u, q.2[j]? = some u → W.cell? ((a.add (i * c)).add j) = some u) ∧ P W q.1 (.agg q.2.toArray) ∧ K q.1 (Rows.uptoBulk (D i))) (fun i hil => by
      obtain ⟨cs', h2, h3⟩ := hi i (by omega)
      rw [hc] at h2
      obtain ⟨_, hcl, hat⟩ := World.cells?_some h2
      obtain ⟨q, h4, h5⟩ := one n cs' _ hcl h3
      refine ⟨(q, cs'), hcl, fun j u hu => ?_, h4, h5⟩
      have hj : j < c := by have h6 : j < cs'.length := (List.getElem?_eq_some_iff.1 hu).1; omega
      rw [hat j hj]
      exact hu)
    have hlen : ((List.range len).map fun i => (f i).1).length = len := by simp
    have hD : ∀ i, i < len → Rows.uptoBulk (D i) ≤ Rows.uptoBulkAll ((List.range len).map D) := fun i hi => bulk_mem (List.mem_map.2 ⟨i, List.mem_range.2 hi, rfl⟩)
    have hB := bulk_len ((List.range len).map D)
    refine ⟨some a, cap, (List.range len).map fun i => (f i).1, (List.range len).map fun i => .agg (f i).2.toArray, by rw [hlen], ⟨by simp, by rw [hlen]; omega, fun hne => ?_, fun i b u hb hu => ?_⟩, fun b hb => ?_, ?_⟩
    · obtain ⟨ab, ao, spot⟩ := a
      have hpos : 0 < len := by
        rcases Nat.eq_zero_or_pos len with h0 | h0
        · subst h0; exact absurd rfl hne
        · exact h0
      have hspot : spot = none := by
        obtain ⟨h4, h5, -⟩ := hff 0 hpos
        have h6 := h5 0 _ (List.getElem?_eq_getElem (by omega))
        simpa [Addr.add] using World.cell?_spot h6
      subst hspot
      refine ⟨ab, ao, rfl, fun i v hv => ?_⟩
      have hi' : i < len := by
        have := (List.getElem?_eq_some_iff.1 hv).1
        simpa using this
      obtain ⟨h4, h5, -⟩ := hff i hi'
      obtain rfl : Value.agg (f i).2.toArray = v := by simpa [hi'] using hv
      refine ⟨by simpa [Value.cells] using h4, fun j u hu => ?_⟩
      have h6 := h5 j u (by simpa [Value.cells] using hu)
      rw [add_plain, add_plain] at h6
      exact h6
    · have hi' : i < len := by
        have := (List.getElem?_eq_some_iff.1 hb).1
        simpa using this
      obtain rfl : (f i).1 = b := by simpa [hi'] using hb
      obtain rfl : Value.agg (f i).2.toArray = u := by simpa [hi'] using hu
      exact (hff i hi').2.2.1
    · obtain ⟨i, hi', rfl⟩ := List.mem_map.1 hb
      have hi' := List.mem_range.1 hi'
      refine ⟨_, (hff i hi').2.2.2, ?_⟩
      have := hD i hi'
      rw [Rows.uptoBulk]
      omega
    · rw [Rows.uptoBulk, hlen]
      simp at hB
      omega
theorem lies_and {α : Type} {P : World → α → Value → Prop} {Q : α → Prop} {c : Nat} {ao : Option Addr} {l : List α} {us : List Value} (h : Lies (fun w a u => P w a u ∧ Q a) c W ao l us) : Lies P c W ao l us ∧ ∀ a ∈ l, Q a := by
  refine ⟨⟨h.len, h.big, h.row, fun i a u hi hu => (h.is i a u hi hu).1⟩, fun a ha => ?_⟩
  obtain ⟨i, hi, rfl⟩ := List.getElem_of_mem ha
  exact (h.is i _ _ (List.getElem?_eq_getElem hi) (List.getElem?_eq_getElem (by have := h.len; omega))).2
theorem text_of {n : Nat} {v : Value} {y : DataW H × List MemPlace} (h : DataW.trod enc Tryz.prog W base spare held n 9 [v] = some y) : ∃ s : ByteArray, v = .string s ∧ s.size ≤ maxLen := by
  obtain ⟨s, e, hy, hs⟩ := DataW.trod_string Tryz.underlying9 h
  simp at e
  exact ⟨s, e, hs⟩
set_option maxRecDepth 100000 in
theorem al_cells {n : Nat} {cs : List Value} {y : DataW H × List MemPlace} (hl : cs.length = 3) (h : DataW.trod enc Tryz.prog W base spare held n 43 cs = some y) : ∃ a : Al, IsAl W a (.agg cs.toArray) ∧ a.ty.size ≤ maxLen ∧ a.rel.size ≤ maxLen := by
  match cs, hl with
  | [c0, c1, c2], _ =>
    obtain ⟨y0, y1, y2, n, hx, _, h0, h1, h2⟩ := Go.Deep.trod_struct3 Tryz.underlying43 h
    simp only [Tr.cellsStr, cellsBo, List.drop_zero, List.drop_succ_cons, List.take_succ_cons, List.take_zero] at h0 h1 h2
    obtain ⟨s0, rfl, u0⟩ := text_of h0
    obtain ⟨s1, rfl, u1⟩ := text_of h1
    obtain ⟨b, e, -⟩ := DataW.trod_bool Tryz.underlying4 h2
    obtain rfl : c2 = .bool b := by simpa using e
    exact ⟨⟨s0, s1, b⟩, rfl, u0, u1⟩
set_option maxRecDepth 100000 in
theorem rl_cells {n : Nat} {cs : List Value} {y : DataW H × List MemPlace} (hl : cs.length = 6) (h : DataW.trod enc Tryz.prog W base spare held n 49 cs = some y) : ∃ r : Rl, (IsRl W r (.agg cs.toArray) ∧ ShortR r) ∧ r.allow.length ≤ Rows.uptoBulk y.1 := by
  match cs, hl with
  | [c0, c1, c2, c3, c4, c5], _ =>
    obtain ⟨y0, y1, y2, n, hx, _, h0, h1, h2⟩ := Go.Deep.trod_struct3 Tryz.underlying49 h
    simp only [Tr.cellsStr, cellsLa, Tr.cellsNode, List.drop_zero, List.drop_succ_cons, List.take_succ_cons, List.take_zero] at h0 h1 h2
    obtain ⟨s0, rfl, u0⟩ := text_of h0
    obtain ⟨ao, cap, l, us, e, hlies, -, hlen⟩ := lies_arg (K := fun _ _ => True) (P := fun w a u => IsAl w a u ∧ (a.ty.size ≤ maxLen ∧ a.rel.size ≤ maxLen)) Tryz.underlying44 cellsAl (by decide) (fun n cs y hl h => by
      obtain ⟨a, h1, h2, h3⟩ := al_cells hl h
      exact ⟨a, ⟨h1, h2, h3⟩, trivial⟩) h1
    obtain rfl : c1 = .slice ao l.length cap := by simpa using e
    obtain ⟨hla, hsh⟩ := lies_and hlies
    obtain ⟨m, hm⟩ := Tr.node_cells _ _ _ h2
    obtain ⟨bo, bc, vs, e2, -, -⟩ := hm.kids
    obtain ⟨rfl, rfl, rfl, rfl⟩ : c2 = .int .i64 m.kind ∧ c3 = .string m.ta ∧ c4 = .string m.tb ∧ c5 = .slice bo m.kids.length bc := by simpa [node4] using e2
    refine ⟨⟨s0, l, m⟩, ⟨⟨ao, cap, bo, bc, us, rfl, hla, hm⟩, u0, hsh⟩, ?_⟩
    subst hx
    simp only [Rows.uptoBulk, Rows.uptoBulkAll]
    omega
set_option maxRecDepth 100000 in
theorem ty_cells {n : Nat} {cs : List Value} {y : DataW H × List MemPlace} (hl : cs.length = 2) (h : DataW.trod enc Tryz.prog W base spare held n 40 cs = some y) :
    ∃ t : Ty, (IsTy W t (.agg cs.toArray) ∧ (t.name.size ≤ maxLen ∧ ∀ r ∈ t.rels, ShortR r)) ∧ ∀ r ∈ t.rels, r.allow.length ≤ Rows.uptoBulk y.1 := by
  match cs, hl with
  | [c0, c1], _ =>
    obtain ⟨y0, y1, n, hx, _, h0, h1⟩ := trod_struct2 Tryz.underlying40 h
    simp only [Tr.cellsStr, cellsLr, List.drop_zero, List.drop_succ_cons, List.take_succ_cons, List.take_zero] at h0 h1
    obtain ⟨s0, rfl, u0⟩ := text_of h0
    obtain ⟨ao, cap, l, us, e, hlies, hk, -⟩ := lies_arg (K := fun r m => r.allow.length ≤ m) (P := fun w r u => IsRl w r u ∧ ShortR r) Tryz.underlying38 cellsRl (by decide) (fun n cs y hl h => rl_cells hl h) h1
    obtain rfl : c1 = .slice ao l.length cap := by simpa using e
    obtain ⟨hla, hsh⟩ := lies_and hlies
    refine ⟨⟨s0, l⟩, ⟨⟨ao, cap, us, rfl, hla⟩, u0, hsh⟩, fun r hr => ?_⟩
    obtain ⟨m, h1, h2⟩ := hk r hr
    subst hx
    simp only [Rows.uptoBulk, Rows.uptoBulkAll]
    omega
end
end Cn
end Go.Proofs.YtopncohhagebbaaGreatDoor
