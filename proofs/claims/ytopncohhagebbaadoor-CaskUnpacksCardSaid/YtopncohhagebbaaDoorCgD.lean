/-
  Layer 10 (cask): the bytes of a configuration that is well made, and soon gone through, are not too many.
  Layer 10 (cask): the document's examples, which each statement asks first. What is asked: the library's table of powers of ten.
-/
import Derived.Test.YtopncohhagebbaaDoorCkGood
import Derived.Test.YtopncohhagebbaaDoorCkTie
namespace Go.Proofs.YtopncohhagebbaaDoor
open Go.RowKit
namespace Ck
open Knot (number textB markB)
open Tr (Nd size sizes errOf)
open Gr (Al Rl Ty)

theorem number_few {n : Nat} (h : n < 9223372036854775808) : (number n).length ≤ 21 := by
  rw [number, List.length_append, List.length_singleton]
  have := Knot.digits_len 18 n (by omega)
  omega
theorem text_few {s : ByteArray} (h : s.size ≤ 16) : (textB s.data.toList).length ≤ 40 := by
  rw [Lib.size_eq] at h
  have := Knot.textB_len (s := s.data.toList) (by omega)
  omega
theorem flat_le {α : Type} {f : α → List UInt8} {c : Nat} : ∀ l : List α, (∀ a ∈ l, (f a).length ≤ c) → (l.flatMap f).length ≤ l.length * c
  | [], _ => Nat.zero_le _
  | a :: l, h => by
    rw [List.flatMap_cons, List.length_append, List.length_cons, Nat.succ_mul]
    have := h a (List.mem_cons_self ..)
    have := flat_le l fun b hb => h b (List.mem_cons_of_mem _ hb)
    omega
theorem flat_nodes : ∀ l : List Nd, (∀ m ∈ l, (nodeB m).length ≤ 130 * size m) → (l.flatMap nodeB).length ≤ 130 * sizes l
  | [], _ => Nat.zero_le _
  | a :: l, h => by
    rw [List.flatMap_cons, List.length_append, sizes]
    have := h a (List.mem_cons_self ..)
    have := flat_nodes l fun b hb => h b (List.mem_cons_of_mem _ hb)
    omega
theorem node_le : ∀ d n, okN kidsP d n → (nodeB n).length ≤ 130 * size n
  | 0, n, h => h.elim
  | d + 1, n, h => by
    obtain ⟨⟨h0, h6⟩, ha, hb, hl, -, hk⟩ := h
    rw [nodeB_eq, listB, List.length_append, List.length_append, List.length_append, List.length_append, Tr.size_kids]
    have h1 := number_few (n := n.kind.toNat) (by omega)
    have h2 := text_few ha
    have h3 := text_few hb
    have h4 := number_few (n := n.kids.length) (by omega)
    have h5 := flat_nodes n.kids fun m hm => node_le d m (hk m hm)
    omega
theorem conf_bound {l : List Ty} (hf : Cn.fewC l = true) (hg : Cn.gC l = true) : (confB l).length ≤ 55000000 := by
  obtain ⟨h1, h2, h3⟩ := Cn.few_parts hf
  have hal : ∀ t ∈ l, ∀ r ∈ t.rels, r.allow.length ≤ 300 := fun t ht r hr => by
    have := Cn.asC_mem ht
    have := Cn.asR_mem hr
    omega
  have hL : Lens 300 l := ⟨by omega, fun t ht => ⟨by have := (h2 t ht).1; omega, fun r hr => hal t ht r hr⟩⟩
  have hok : okC 300 kidsP l := good_okC kids_lim hg hL (by omega) (Int.le_refl _)
  have hty : ∀ t ∈ l, (typeB t).length ≤ 1700000 := fun t ht => by
    obtain ⟨hn, -, -, hrs⟩ := hok.2.2 t ht
    have hrel : ∀ r ∈ t.rels, (relB r).length ≤ 28000 := fun r hr => by
      obtain ⟨hrn, ⟨hra, -, hro⟩, hre⟩ := hrs r hr
      have hsz : size r.expr ≤ 24 := by
        have h5 := List.all_eq_true.1 hg t ht
        rw [Cn.gT, Bool.and_eq_true] at h5
        have h6 := List.all_eq_true.1 h5.2 r hr
        rw [Cn.gR, Bool.and_eq_true, Bool.and_eq_true, beq_iff_eq] at h6
        exact (err_parts h6.1.2).2.1
      have hallow : ∀ a ∈ r.allow, (allowB a).length ≤ 81 := fun a ha => by
        have ho := hro a ha
        rw [allowB, List.length_append, List.length_append]
        have k1 := text_few ho.1
        have k2 := text_few ho.2
        have k3 : (markB a.wild).length = 1 := by cases a.wild <;> rfl
        omega
      rw [relB, listB, List.length_append, List.length_append, List.length_append]
      have k1 := text_few hrn
      have k2 := number_few (n := r.allow.length) (by omega)
      have k3 := flat_le r.allow hallow
      have k4 := node_le 8 r.expr hre
      have k5 := hal t ht r hr
      omega
    rw [typeB, listB, List.length_append, List.length_append]
    have k1 := text_few hn
    have k2 := number_few (n := t.rels.length) (by have := (h2 t ht).1; omega)
    have k3 := flat_le t.rels hrel
    have k4 := (h2 t ht).1
    omega
  rw [confB, listB, List.length_append]
  have k1 := number_few (n := l.length) (by omega)
  have k3 := flat_le l hty
  omega
end Ck
end Go.Proofs.YtopncohhagebbaaDoor

namespace Go.Proofs.YtopncohhagebbaaDoor
open Go.RowKit Go.Sort
namespace Ck
open Knot (Tab number textB digits_low conv_bytes tab_on tab_up)
open Tr (Nd none0)
open Who (bs bs_list)
open Gr (Al Rl Ty IsCf IsTy Lies tTy tCf)

def exA : ByteArray := ⟨#[97]⟩
theorem conf_none : confB [] = [48, 59] := by
  simp only [confB, listB, number, List.length_nil, List.flatMap_nil, List.append_nil]
  rw [digits_low (by omega)]
  decide
theorem conf_one : confB [⟨exA, []⟩] = [49, 59, 49, 59, 97, 44, 48, 59] := by
  simp only [confB, listB, typeB, number, textB, List.length_cons, List.length_nil, List.flatMap_cons, List.flatMap_nil, List.append_nil]
  rw [digits_low (show 0 + 1 < 10 by omega), digits_low (show exA.data.toList.length < 10 by decide), digits_low (show 0 < 10 by omega)]
  decide
theorem good_none : Cn.gC [] = true := rfl
theorem good_one : Cn.gC [⟨exA, []⟩] = true := by decide +kernel
theorem is_none (w : World) : IsCf w [] (.agg #[.slice none 0 0]) := ⟨none, 0, [], rfl, rfl, Nat.zero_le _, fun h => absurd rfl h, fun i a u h => by simp at h⟩
theorem is_one {w : World} {b : Nat} (h : w.heap[b]? = some (.cells #[.string exA, .slice none 0 0] tTy (0, 0))) : IsCf w [⟨exA, []⟩] (.agg #[.slice (some ⟨b, 0, none⟩) 1 1]) := by
  refine ⟨_, 1, [.agg #[.string exA, .slice none 0 0]], rfl, rfl, by unfold maxLen; simp, fun _ => ⟨b, 0, rfl, fun i v hv => ?_⟩, fun i a u hi hu => ?_⟩
  · match i, hv with
    | 0, hv =>
      obtain rfl : Value.agg #[.string exA, .slice none 0 0] = v := by simpa using hv
      refine ⟨rfl, fun j u hj => ?_⟩
      match j, hj with
      | 0, hj => rw [Lib.cell_of_heap h]; exact hj
      | 1, hj => rw [Lib.cell_of_heap h]; exact hj
      | j + 2, hj => simp [Value.cells] at hj
    | i + 1, hv => simp at hv
  · match i, hi with
    | 0, hi =>
      obtain rfl : (⟨exA, []⟩ : Ty) = a := by simpa using hi
      obtain rfl : Value.agg #[.string exA, .slice none 0 0] = u := by simpa using hu
      exact ⟨none, 0, [], rfl, rfl, Nat.zero_le _, fun h => absurd rfl h, fun i a u h => by simp at h⟩
    | i + 1, hi => simp at hi
theorem eq_none : ((bs [48, 59]).toList == [48, 59]) = true := by rw [Lib.toList_data, bs_list]; decide +kernel
theorem eq_one : ((bs [49, 59, 49, 59, 97, 44, 48, 59]).toList == [49, 59, 49, 59, 97, 44, 48, 59]) = true := by rw [Lib.toList_data, bs_list]; decide +kernel

set_option maxHeartbeats 4000000 in
set_option maxRecDepth 100000 in
theorem awake_any (w : World) (htab : Tab w.heap.size w) : Calls Tryd.prog 4 #[] w fun e x => e = .returned (.bool true) ∧ Below w.heap.size w x := by
  have h0 := pack_any [] _ w (is_none w) htab (fun _ => by rw [conf_none]; decide)
  have HT := Lib.hid htab
  have H0 := Lib.hid h0
  clear h0 htab
  go_enter Tryd.func4, Tryd.ntmps4
  go_wp2_with fail
  refine H0.out.mono ?_
  rintro e w1 ⟨hb, ⟨hg, -⟩ | ⟨-, g1, c1, rfl, ho⟩⟩
  · cases hg
  rw [conf_none] at ho ⊢
  have al := Tr.fresh_one w1 (.cells #[.string exA, .slice none 0 0] tTy)
  have hk := heap_alloc_new w1 (.cells #[.string exA, .slice none 0 0] tTy)
  have h1 := pack_any [⟨exA, []⟩] _ (w1.alloc (.cells #[.string exA, .slice none 0 0] tTy)) (is_one hk) (tab_up HT.out (hb.trans (al.mono hb.size))) (fun _ => by rw [conf_one]; decide)
  have H1 := Lib.hid h1
  have HB := Lib.hid (And.intro (hb.trans (al.mono hb.size)) (Tr.own_below ho al))
  clear h1 hb ho al hk H0
  go_wp2_with fail
  refine H1.out.mono ?_
  rintro e w2 ⟨hb, ⟨hg, -⟩ | ⟨-, g2, c2, rfl, ho⟩⟩
  · rw [good_one] at hg; cases hg
  rw [conf_one] at ho ⊢
  have e1 : (Go.convert 22 9 (.slice (some ⟨g1, 0, none⟩) 2 c1)).run Tryd.prog w2 = .ok (.string (bs [48, 59])) w2 := conv_bytes (Tr.own_below HB.out.2 hb)
  have e2 : (Go.convert 22 9 (.slice (some ⟨g2, 0, none⟩) 8 c2)).run Tryd.prog w2 = .ok (.string (bs [49, 59, 49, 59, 97, 44, 48, 59])) w2 := conv_bytes ho
  have HB2 := Lib.hid (HB.out.1.trans (hb.mono HB.out.1.size))
  have t1 := eq_none
  have t2 := eq_one
  generalize bs [48, 59] = s1 at *
  generalize bs [49, 59, 49, 59, 97, 44, 48, 59] = s2 at *
  clear hb ho HB H1
  go_wp2
  go_ret
  exact ⟨rfl, HB2.out⟩
end Ck
end Go.Proofs.YtopncohhagebbaaDoor
