/-
  Plain mathematics of layer 10 (cask): a configuration that is well made is taken of its bytes, and of no others. No program is named here.
-/
import Derived.Test.YtopncohhagebbaaDoorCgA
import Derived.Test.YtopncohhagebbaaDoorCnDef
namespace Go.Proofs.YtopncohhagebbaaDoor
open Go.RowKit
namespace Ck
open Knot (number textB markB takeN takeT takeM)
open Tr (Nd none0 size sizes depth depths errOf)
open Gr (Al Rl Ty)
open Who (bs bs_list bs_size bs_self)

/-! ### a configuration that is well made -/
theorem word_size {s : ByteArray} (h : Tr.word s = true) : s.size ≤ 16 := by
  rw [Tr.word, Bool.and_eq_true] at h
  have h1 := h.1
  rw [Gly.nameB, Bool.and_eq_true, decide_eq_true_eq] at h1
  rw [Lib.size_eq]
  exact h1.1.2
theorem nil_size {s : ByteArray} (h : Tr.nil s = true) : s.size ≤ 16 := by
  rw [Tr.nil, List.isEmpty_iff] at h
  rw [Lib.size_eq, h]
  simp
theorem fits_parts {n : Nd} (h : Tr.fits n = true) : (0 ≤ n.kind ∧ n.kind ≤ 6) ∧ n.ta.size ≤ 16 ∧ n.tb.size ≤ 16 := by
  obtain ⟨k, a, b, l⟩ := n
  rw [Tr.fits] at h
  simp only [Bool.or_eq_true, Bool.and_eq_true, beq_iff_eq] at h
  simp only [Nd.kind, Nd.ta, Nd.tb]
  rcases h with ((((h | h) | h) | h) | h)
  · exact ⟨by omega, nil_size h.2.1.1, nil_size h.2.1.2⟩
  · exact ⟨by omega, word_size h.2.1.1, nil_size h.2.1.2⟩
  · exact ⟨by omega, word_size h.2.1.1, word_size h.2.1.2⟩
  · exact ⟨by omega, nil_size h.2.1.1, nil_size h.2.1.2⟩
  · exact ⟨by omega, nil_size h.2.1.1, nil_size h.2.1.2⟩
/-- A limit that lets 24 kids be, but none at the lowest. -/
def Lim (lim : Nat → Int) : Prop := 0 ≤ lim 0 ∧ ∀ d, 24 ≤ lim (d + 1)
theorem good_okN {lim : Nat → Int} (hl : Lim lim) : ∀ d n, Tr.good n = true → size n ≤ 24 → depth n ≤ d → okN lim d n
  | 0, n, _, _, h => by have := Tr.depth_pos n; omega
  | d + 1, n, hg, hs, hd => by
    have h1 := hg
    rw [Tr.good_kids, Bool.and_eq_true] at h1
    obtain ⟨h2, h3, h4⟩ := fits_parts h1.2
    have h5 := Tr.size_kids n
    have h6 := Tr.depth_kids n
    have h7 := Tr.sizes_len n.kids
    refine ⟨h2, h3, h4, by omega, ?_, fun m hm => good_okN hl d m (Tr.goods_mem h1.1 hm) ?_ ?_⟩
    · match d with
      | 0 =>
        have h8 : n.kids = [] := by
          match hk : n.kids with
          | [] => rfl
          | m :: r =>
            exfalso
            rw [hk, depths] at h6
            have := Tr.depth_pos m
            omega
        rw [h8]
        exact hl.1
      | d + 1 =>
        have := hl.2 d
        omega
    · have := Tr.sizes_mem hm
      omega
    · have h9 : ∀ (l : List Nd), m ∈ l → depth m ≤ depths l := by
        intro l
        induction l with
        | nil => intro h; cases h
        | cons a r ih =>
          intro h
          rw [depths]
          rcases List.mem_cons.1 h with rfl | h
          · omega
          · have := ih h; omega
      have := h9 _ hm
      omega
theorem err_parts {n : Nd} (h : errOf n = 0) : Tr.good n = true ∧ size n ≤ 24 ∧ depth n ≤ 8 := by
  rw [errOf] at h
  split at h
  · cases h
  · rename_i h1
    split at h
    · cases h
    · split at h
      · cases h
      · exact ⟨by simpa using h1, by omega, by omega⟩
theorem good_okR {big : Int} {lim : Nat → Int} (hl : Lim lim) {r : Rl} (h : Cn.gR r = true) (hb : r.allow.length < 10 ^ 17 ∧ (r.allow.length : Int) ≤ big) : okR big lim r := by
  rw [Cn.gR, Bool.and_eq_true, Bool.and_eq_true, beq_iff_eq] at h
  obtain ⟨h1, h2, h3⟩ := err_parts h.1.2
  refine ⟨word_size h.1.1, ⟨hb.1, hb.2, fun a ha => ?_⟩, good_okN hl 8 _ h1 h2 h3⟩
  have h4 := List.all_eq_true.1 h.2 a ha
  rw [Cn.gA, Bool.and_eq_true, Bool.or_eq_true, Bool.and_eq_true] at h4
  exact ⟨word_size h4.1, h4.2.elim nil_size fun h => word_size h.1⟩
/-- No list has more than so many things. -/
def Lens (big : Nat) (l : List Ty) : Prop := l.length ≤ big ∧ ∀ t ∈ l, t.rels.length ≤ big ∧ ∀ r ∈ t.rels, r.allow.length ≤ big
theorem good_okC {N : Nat} {big : Int} {lim : Nat → Int} (hl : Lim lim) {l : List Ty} (h : Cn.gC l = true) (hb : Lens N l) (hN : N < 10 ^ 17) (hbig : (N : Int) ≤ big) : okC big lim l := by
  refine ⟨by have := hb.1; omega, by have := hb.1; omega, fun t ht => ?_⟩
  have h1 := List.all_eq_true.1 h t ht
  rw [Cn.gT, Bool.and_eq_true] at h1
  obtain ⟨h2, h3⟩ := hb.2 t ht
  exact ⟨word_size h1.1, by omega, by omega, fun r hr => good_okR hl (List.all_eq_true.1 h1.2 r hr) ⟨by have := h3 r hr; omega, by have := h3 r hr; omega⟩⟩
theorem conf_lens (l : List Ty) : Lens (confB l).length l := by
  refine ⟨?_, fun t ht => ?_⟩
  · have := listB_len typeB_pos l
    rw [confB]
    omega
  · have h1 : (typeB t).length ≤ (confB l).length := listB_mem ht
    have h2 : (listB relB t.rels).length ≤ (typeB t).length := by rw [typeB, List.length_append]; omega
    have h3 := listB_len relB_pos t.rels
    refine ⟨by omega, fun r hr => ?_⟩
    have h4 : (relB r).length ≤ (listB relB t.rels).length := listB_mem hr
    have h5 : (listB allowB r.allow).length ≤ (relB r).length := by rw [relB, List.length_append, List.length_append]; omega
    have h6 := listB_len allowB_pos r.allow
    omega
theorem kids_lim : Lim kidsP := ⟨by rw [kidsP, if_pos rfl]; omega, fun d => by rw [kidsP, if_neg (by omega)]; omega⟩
/-- The configuration of bytes, if they are just its, and it is well made. -/
def unpack (b : List UInt8) : Option (List Ty) := match confT top kidsP b with
  | some (l, []) => if Cn.gC l = true then some l else none
  | _ => none
theorem unpack_of {b : List UInt8} {l : List Ty} (h : unpack b = some l) : b = confB l ∧ Cn.gC l = true := by
  rw [unpack] at h
  split at h
  · rename_i m hm
    split at h
    · rename_i hg
      obtain rfl := Option.some.inj h
      have := conf_sound _ _ _ _ _ hm
      rw [List.append_nil] at this
      exact ⟨this, hg⟩
    · cases h
  · cases h
theorem conf_again {l : List Ty} (y : List UInt8) (hg : Cn.gC l = true) (hb : (confB l).length < 10 ^ 17) : confT top kidsP (confB l ++ y) = some (l, y) :=
  conf_goes top kidsP l y (good_okC kids_lim hg (conf_lens l) hb (by unfold top; omega))
theorem unpack_again {l : List Ty} (hg : Cn.gC l = true) (hb : (confB l).length < 10 ^ 17) : unpack (confB l) = some l := by
  have h := conf_again [] hg hb
  rw [List.append_nil] at h
  rw [unpack, h]
  exact if_pos hg
/-- Nothing longer, and nothing shorter, is another's bytes. -/
theorem unpack_longer {l : List Ty} {y : List UInt8} (hg : Cn.gC l = true) (hb : (confB l).length < 10 ^ 17) (hy : y ≠ []) : unpack (confB l ++ y) = none := by
  rw [unpack, conf_again y hg hb]
  match y, hy with
  | a :: y, _ => rfl
theorem unpack_shorter {l : List Ty} {a y : List UInt8} (hg : Cn.gC l = true) (hb : (confB l).length < 10 ^ 17) (e : a ++ y = confB l) (hy : y ≠ []) : unpack a = none := by
  cases h : unpack a with
  | none => rfl
  | some m =>
    exfalso
    obtain ⟨e1, e2⟩ := unpack_of h
    have h1 : (confB m).length < 10 ^ 17 := by
      have := congrArg List.length e
      rw [List.length_append] at this
      rw [← e1]
      omega
    have h2 := conf_again y e2 h1
    rw [← e1, e] at h2
    have h3 := conf_again [] hg hb
    rw [List.append_nil, h2] at h3
    exact hy (Prod.mk.inj (Option.some.inj h3)).2
/-- What the program's taking of all comes to. -/
theorem confP_unpack (b : List UInt8) : (unpack b = none ∧ ((confP (b, false)).2.2 = true ∨ (confP (b, false)).2.1 ≠ [] ∨ Cn.gC (confP (b, false)).1 = false)) ∨ (∃ l, unpack b = some l ∧ confP (b, false) = (l, ([], false)) ∧ Cn.gC l = true) := by
  cases ht : confT top kidsP b with
  | none => exact .inl ⟨by rw [unpack, ht], .inl (by rw [conf_lifts.no (b, false) ht]; rfl)⟩
  | some q =>
    obtain ⟨l, r⟩ := q
    have hp := conf_lifts.yes (b, false) l r ht
    match r with
    | [] =>
      cases hg : Cn.gC l with
      | true => exact .inr ⟨l, by rw [unpack, ht]; exact if_pos hg, hp, hg⟩
      | false => exact .inl ⟨by rw [unpack, ht]; dsimp only; rw [if_neg (by rw [hg]; decide)], .inr (.inr (by rw [hp]; exact hg))⟩
    | a :: r => exact .inl ⟨by rw [unpack, ht], .inr (.inl (by rw [hp]; simp))⟩
end Ck
end Go.Proofs.YtopncohhagebbaaDoor
