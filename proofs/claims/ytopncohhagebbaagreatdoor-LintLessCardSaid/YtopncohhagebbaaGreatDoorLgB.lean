/-
  Layer 9's program: what its layout is in memory: types, relations in a row with their expressions, the map of their places; what stays while other blocks turn.
  Layer 9's program: what stands in a list, each thing once; whether something stands there twice.
  Layer 9's program: whether there is a relation; what is allowed but isn't there; what may be several.
  Layer 9's program: what is wrong with a reference.
  Layer 9's program: what is wrong with a type's name; with a relation.
  Layer 9's program: what is wrong first, but for cycles, and where it is.
-/
import Derived.Test.YtopncohhagebbaaGreatDoorLgA
import Derived.Test.YtopncohhagebbaaGreatDoorCnDef
import Derived.Test.YtopncohhagebbaaGreatDoorLgE
import Derived.Test.YtopncohhagebbaaGreatDoorTgR
import Derived.Test.YtopncohhagebbaaGreatDoorTrBuildB
import Derived.Test.YtopncohhagebbaaGreatDoorGrSameB
import Derived.StillTailTactics
import Derived.Test.YtopncohhagebbaaGreatDoorLgF
namespace Go.Proofs.YtopncohhagebbaaGreatDoor
open Go.RowKit
namespace Ly
open Tr (Nd IsExpr node4 none0 size good errOf refs RowAt own_open own_slice own_below own_turn IsElem Rf)
open Gr (Al Rl Ty IsAl IsRl IsTy IsCf Lies cellsV cellsV_append cellsV_len al_at)
open Cn (gC gT gR gA)
open Knot (Turns NewRow)
open Lt (It Re relsL relsT place Stp)

def Off (F : Nat → Prop) (w : World) (P : World → Prop) : Prop := ∀ x, Turns F w x → P x
section
variable {F G : Nat → Prop} {w y : World} {P : World → Prop}
theorem Off.now (h : Off F w P) : P w := h w (Turns.refl F w)
theorem Off.grow (h : Off F w P) (ht : Turns F w y) (hG : ∀ k, k < w.heap.size → G k → F k) : Off G y P := fun x hx => h x (ht.trans hx hG)
theorem Off.turn (h : Off F w P) (ht : Turns F w y) : Off F y P := h.grow ht fun _ _ h => h
theorem Off.below (h : Off F w P) (hb : Below w.heap.size w y) : Off F y P := h.turn (Turns.of_below hb)
end

structure Wd (l : List Ty) : Prop where
  ty : ∀ t ∈ l, t.name.size ≤ 16
  rel : ∀ t ∈ l, ∀ r ∈ t.rels, r.name.size ≤ 16 ∧ r.name.toList.isEmpty = false
  allow : ∀ t ∈ l, ∀ r ∈ t.rels, ∀ a ∈ r.allow, a.ty.size ≤ 16 ∧ a.rel.size ≤ 16
  expr : ∀ t ∈ l, ∀ r ∈ t.rels, good r.expr = true ∧ errOf r.expr = 0 ∧ size r.expr ≤ 24
theorem word_size {a : ByteArray} (h : Tr.word a = true) : a.size ≤ 16 := by
  have : a.data.toList.length ≤ 16 := by
    rw [Tr.word, Bool.and_eq_true, Gly.nameB, Bool.and_eq_true, decide_eq_true_iff] at h
    exact h.1.1.2
  rwa [lenB] at this
theorem word_some {a : ByteArray} (h : Tr.word a = true) : Tr.nil a = false := by
  unfold Tr.word at h
  unfold Tr.nil
  cases hl : a.data.toList with
  | nil => rw [hl] at h; simp [Gly.nameB] at h
  | cons _ _ => rfl
theorem word_full {a : ByteArray} (h : Tr.word a = true) : a.toList.isEmpty = false := by
  have := word_some h
  unfold Tr.nil at this
  cases he : a.toList.isEmpty with
  | false => rfl
  | true =>
    rw [List.isEmpty_iff] at he
    rw [Lib.toList_data] at he
    rw [he] at this
    cases this
theorem wd_of {l : List Ty} (h : gC l = true) : Wd l := by
  rw [gC, List.all_eq_true] at h
  have ht : ∀ t ∈ l, Tr.word t.name = true ∧ ∀ r ∈ t.rels, gR r = true := fun t hm => by
    have := h t hm
    rw [gT, Bool.and_eq_true, List.all_eq_true] at this
    exact this
  have hr : ∀ t ∈ l, ∀ r ∈ t.rels, Tr.word r.name = true ∧ errOf r.expr = 0 ∧ ∀ a ∈ r.allow, gA a = true := fun t hm r hrm => by
    have := (ht t hm).2 r hrm
    rw [gR, Bool.and_eq_true, Bool.and_eq_true, List.all_eq_true, beq_iff_eq] at this
    exact ⟨this.1.1, this.1.2, this.2⟩
  refine ⟨fun t hm => word_size (ht t hm).1, fun t hm r hrm => ⟨word_size (hr t hm r hrm).1, word_full (hr t hm r hrm).1⟩, fun t hm r hrm a ha => ?_, fun t hm r hrm => ?_⟩
  · have := (hr t hm r hrm).2.2 a ha
    rw [gA, Bool.and_eq_true, Bool.or_eq_true, Bool.and_eq_true] at this
    refine ⟨word_size this.1, ?_⟩
    rcases this.2 with h1 | h1
    · unfold Tr.nil at h1
      have h2 : a.rel.data.toList.length = 0 := by
        rw [List.length_eq_zero_iff]
        simpa [Lib.toList_data] using h1
      rw [lenB] at h2
      omega
    · exact word_size h1.1
  · have h0 := (hr t hm r hrm).2.1
    rcases Tr.err_cases r.expr with ⟨h1, -⟩ | ⟨h1, -⟩ | ⟨h1, -⟩ | ⟨h1, h2, h3, -⟩
    · rw [h1] at h0; cases h0
    · rw [h1] at h0; cases h0
    · rw [h1] at h0; cases h0
    · exact ⟨h2, h0, h3⟩
mutual
theorem refs_short : ∀ (n : Nd) (o : Bool), good n = true → ∀ x ∈ refs n o, x.via.size ≤ 16 ∧ x.rel.size ≤ 16
  | .mk k a b l, o, h, x, hx => by
    rw [good, Bool.and_eq_true] at h
    rw [refs] at hx
    by_cases h2 : k = 2
    · rw [if_pos h2] at hx
      rw [List.mem_singleton] at hx
      subst hx
      have := h.2
      subst h2
      simp [Tr.fits] at this
      exact ⟨Nat.zero_le _, word_size this.1.1⟩
    · rw [if_neg h2] at hx
      by_cases h3 : k = 3
      · rw [if_pos h3, List.mem_singleton] at hx
        subst hx
        have := h.2
        subst h3
        simp [Tr.fits] at this
        exact ⟨word_size this.1.1, word_size this.1.2⟩
      · rw [if_neg h3] at hx
        exact refss_short k l 0 o h.1 x hx
theorem refss_short (k : Int) : ∀ (l : List Nd) (i : Nat) (o : Bool), Tr.goods l = true → ∀ x ∈ Tr.refss k l i o, x.via.size ≤ 16 ∧ x.rel.size ≤ 16
  | [], _, _, _, x, hx => by rw [Tr.refss] at hx; cases hx
  | n :: r, i, o, h, x, hx => by
    rw [Tr.goods, Bool.and_eq_true] at h
    rw [Tr.refss] at hx
    rcases List.mem_append.1 hx with hx | hx
    · exact refs_short n _ h.1 x hx
    · exact refss_short k r (i + 1) o h.2 x hx
end
theorem Wd.mem {l : List Ty} (h : Wd l) {x : Re} (hx : x ∈ relsL l) : x.1.1.size ≤ 16 ∧ x.1.2.size ≤ 16 ∧ x.1.2.toList.isEmpty = false ∧ x.2.name.size ≤ 16 ∧ (∀ a ∈ x.2.allow, a.ty.size ≤ 16 ∧ a.rel.size ≤ 16) ∧ good x.2.expr = true ∧ size x.2.expr ≤ 24 := by
  obtain ⟨t, ht, hx⟩ := List.mem_flatMap.1 hx
  obtain ⟨r, hr, rfl⟩ := List.mem_map.1 hx
  have h1 := h.rel t ht r hr
  have h2 := h.expr t ht r hr
  exact ⟨h.ty t ht, h1.1, h1.2, h1.1, h.allow t ht r hr, h2.1, h2.2.2⟩

abbrev tRe : TypeId := 90
abbrev tRes : TypeId := 76
abbrev tLay : TypeId := 79
abbrev reV (t r nm : ByteArray) (al : Value) (k : Int) (a b : ByteArray) (kids ev : Value) : Value := .agg #[.string t, .string r, .string nm, al, .int .i64 k, .string a, .string b, kids, ev]
def IsRe (w : World) (x : Re) (v : Value) : Prop :=
  ∃ ao cap no nc ev us, v = reV x.1.1 x.1.2 x.2.name (.slice ao x.2.allow.length cap) x.2.expr.kind x.2.expr.ta x.2.expr.tb (.slice no x.2.expr.kids.length nc) ev ∧ Lies IsAl 3 w ao x.2.allow us ∧ IsExpr 0 w x.2.expr ev
theorem IsAl.stay {w x : World} {a : Al} {u : Value} (h : IsAl w a u) : IsAl x a u := h
theorem IsRe.below {w x : World} {a : Re} {v : Value} (h : IsRe w a v) (hb : Below w.heap.size w x) : IsRe x a v := by
  obtain ⟨ao, cap, no, nc, ev, us, rfl, h1, h2⟩ := h
  exact ⟨ao, cap, no, nc, ev, us, rfl, h1.on hb fun _ _ h => h, h2.below hb⟩
theorem elemRe : Tryz.prog.underlying tRes = some (.slice (Tryz.prog.elem tRes)) := by kernel_rfl
theorem sizeRe : ∀ w, (sizeOf (Tryz.prog.elem tRes)).run Tryz.prog w = .ok 9 w := fun w => by kernel_rfl
set_option maxRecDepth 100000 in
theorem res_elem : ∃ i z b, IsElem Tryz.prog tRes tRe i z 9 b ∧ b ≤ 200 := by
  refine ⟨_, _, _, ⟨by kernel_rfl, rfl, rfl, by kernel_rfl, rfl, by kernel_rfl, by omega⟩, ?_⟩
  exact of_decide_eq_true (by kernel_rfl)
open Classical in
noncomputable def seenF {α : Type} (κ : α → Value) (l : List α) (v : Value) : Option Int := (l.findIdx? fun x => decide (κ x = v)).map Int.ofNat
section
variable {α : Type} {κ : α → Value}
theorem seen_more (l : List α) (x : α) (v : Value) : seenF κ (l ++ [x]) v = (seenF κ l v).or (open Classical in if κ x = v then some (l.length : Int) else none) := by
  unfold seenF
  rw [List.findIdx?_append]
  simp only [List.findIdx?_cons, List.findIdx?_nil]
  by_cases h : κ x = v
  · cases List.findIdx? (fun x => @decide (κ x = v) (Classical.propDecidable _)) l <;> simp [h]
  · cases List.findIdx? (fun x => @decide (κ x = v) (Classical.propDecidable _)) l <;> simp [h]
theorem seen_some {l : List α} {v : Value} : (seenF κ l v).isSome = true ↔ ∃ x ∈ l, κ x = v := by
  unfold seenF
  rw [Option.isSome_map, List.findIdx?_isSome, List.any_eq_true]
  simp
theorem seen_put {l : List α} {x : α} (h : (seenF κ l (κ x)).isSome = false) : seenF κ (l ++ [x]) (κ x) = some (l.length : Int) ∧ ∀ u, u ≠ κ x → seenF κ (l ++ [x]) u = seenF κ l u := by
  constructor
  · rw [seen_more]
    cases hs : seenF κ l (κ x) with
    | none => simp
    | some z => rw [hs] at h; cases h
  · intro u hu
    rw [seen_more, if_neg (fun e => hu e.symm)]
    cases seenF κ l u <;> rfl
theorem seen_old {l : List α} {x : α} (h : (seenF κ l (κ x)).isSome = true) : seenF κ (l ++ [x]) = seenF κ l := by
  funext u
  rw [seen_more]
  by_cases e : κ x = u
  · subst e
    cases hs : seenF κ l (κ x) with
    | none => rw [hs] at h; cases h
    | some z => rfl
  · rw [if_neg e]
    cases seenF κ l u <;> rfl
end
abbrev spotV (a : It) : Value := .agg #[.string a.1, .string a.2]
def keyRe (x : Re) : Value := spotV x.1
theorem spotV_inj {a b : It} : spotV a = spotV b ↔ a = b := by
  obtain ⟨a1, a2⟩ := a
  obtain ⟨b1, b2⟩ := b
  simp [spotV]
theorem seen_place (L : List Re) (a : It) : seenF keyRe L (spotV a) = (place L a).map Int.ofNat := by
  unfold seenF place
  congr 2
  funext x
  rw [Bool.eq_iff_iff]
  simp only [decide_eq_true_eq, Lt.sameI_iff]
  exact spotV_inj

structure LayAt (w : World) (l : List Ty) (ao : Option Addr) (ro : Option Addr) (rc b : Nat) : Prop where
  types : ∃ us, Lies IsTy 2 w ao l us
  rels : ∃ vs, Lies IsRe 9 w ro (relsL l) vs
  tab : ∃ n, Tab tSpot w b n (seenF keyRe (relsL l))
  room : (relsL l).length ≤ rc
abbrev layV (ao : Option Addr) (n cap : Nat) (ro : Option Addr) (m rc b : Nat) : Value := .agg #[.slice ao n cap, .slice ro m rc, .map (some b)]
theorem LayAt.below {w x : World} {l : List Ty} {ao ro : Option Addr} {rc b : Nat} (h : LayAt w l ao ro rc b) (hb : Below w.heap.size w x) : LayAt x l ao ro rc b := by
  obtain ⟨⟨us, h1⟩, ⟨vs, h2⟩, ⟨n, h3⟩, h4⟩ := h
  exact ⟨⟨us, h1.on hb fun _ _ h => h.below hb⟩, ⟨vs, h2.on hb fun _ _ h => h.below hb⟩, ⟨n, h3.below hb⟩, h4⟩
theorem re_at {w : World} {L : List Re} {ro : Option Addr} {vs : List Value} (h : Lies IsRe 9 w ro L vs) (cap : Nat) {i : Nat} (hi : i < L.length) :
    ∃ g q ao ac no nc ev us, (∀ W, (Instr.indexAt tRes (.slice ro L.length cap) (.int .i64 (i : Int))).run Tryz.prog W = .ok (.pointer (some ⟨g, q, none⟩)) W) ∧ g < w.heap.size ∧
      (w.cell? ⟨g, q, none⟩ = some (.string L[i].1.1) ∧ w.cell? ⟨g, q + 1, none⟩ = some (.string L[i].1.2) ∧ w.cell? ⟨g, q + 2, none⟩ = some (.string L[i].2.name) ∧ w.cell? ⟨g, q + 3, none⟩ = some (.slice ao L[i].2.allow.length ac) ∧ w.cell? ⟨g, q + 4, none⟩ = some (.int .i64 L[i].2.expr.kind) ∧
        w.cell? ⟨g, q + 5, none⟩ = some (.string L[i].2.expr.ta) ∧ w.cell? ⟨g, q + 6, none⟩ = some (.string L[i].2.expr.tb) ∧ w.cell? ⟨g, q + 7, none⟩ = some (.slice no L[i].2.expr.kids.length nc) ∧ w.cell? ⟨g, q + 8, none⟩ = some ev) ∧
      Lies IsAl 3 w ao L[i].2.allow us ∧ IsExpr 0 w L[i].2.expr ev := by
  obtain ⟨g, q, u, h1, h2, h3, ao, ac, no, nc, ev, us, rfl, h4, h5⟩ := h.at elemRe sizeRe (by decide) cap hi
  exact ⟨g, q, ao, ac, no, nc, ev, us, h1, h2, ⟨h3 0 _ rfl, h3 1 _ rfl, h3 2 _ rfl, h3 3 _ rfl, h3 4 _ rfl, h3 5 _ rfl, h3 6 _ rfl, h3 7 _ rfl, h3 8 _ rfl⟩, h4, h5⟩
end Ly
end Go.Proofs.YtopncohhagebbaaGreatDoor

namespace Go.Proofs.YtopncohhagebbaaGreatDoor
open Go.RowKit
namespace Ly
open Tr (Nd IsExpr node4 none0 size good errOf refs RowAt own_open own_slice own_below own_turn IsElem Rf walk_rows)
open Gr (Al Rl Ty IsAl IsRl IsTy IsCf Lies cellsV cellsV_append cellsV_len al_at new_cells alV)
open Knot (Turns NewRow)
open Lt (It Re relsL relsT place Stp StrRow str_at strs_elem onceP onceF onceP_snoc dup dup_lt once_mem once_any same same_iff sameA sameA_iff)

theorem make_map {t k e : TypeId} (ht : Tryz.prog.underlying t = some (.map k e)) (n : Nat) (w : World) : (Instr.makeMap t (some (.int .i64 (n : Int)))).run Tryz.prog w = .ok (.map (some w.heap.size)) (w.alloc (.map #[] 0)) := by
  unfold Instr.makeMap
  simp [run_underlying ht, asInt, asIntOf]

set_option maxHeartbeats 8000000 in
set_option maxRecDepth 100000 in
theorem onceS_any (B : Nat) (l : List ByteArray) (v : Value) (w : World) (h : StrRow B w v l) (hs : ∀ s ∈ l, s.size ≤ maxLen) (hn : l.length ≤ 100000) :
    Calls Tryz.prog 138 #[v] w fun e x => ∃ u, e = .returned u ∧ StrRow w.heap.size x u (onceP same l) ∧ Below w.heap.size w x := by
  obtain ⟨ao, cap, rfl⟩ := own_slice (show w.ownsRow B 9 1 v l.length (l.map Value.string) from h)
  have HL := Lib.hid (And.intro h hs)
  have hmm := make_map mapS l.length
  have hz : ∀ t, (w.alloc t).heap.size = w.heap.size + 1 := fun t => by simp
  have H0 := Lib.hid (And.intro (Tab.made 9 w) (And.intro (Tr.fresh_one w (.map #[] 0)) (hz (.map #[] 0))))
  clear h hs hz
  go_enter Tryz.func138, Tryz.ntmps138
  go_wp2_with fail
  generalize w.alloc (.map #[] 0) = X at *
  go_loopw [4, 14] (fun fv i wr => ∃ j : Nat, j ≤ l.length ∧ i = .int .i64 j ∧ Hid (StrRow (w.heap.size + 1) wr fv (onceP same (l.take j)) ∧ Tab 9 wr w.heap.size j (seenF Value.string (l.take j)) ∧ Below w.heap.size w wr ∧ w.heap.size + 1 ≤ wr.heap.size)) (fun _ i _ => l.length - (intOf i).toNat)
  case atStart => exact ⟨0, by omega, rfl, Lib.hid ⟨World.ownsRow_nil _ _ _ _, H0.out.1, H0.out.2.1, by have := H0.out.2.2; omega⟩⟩
  case round =>
    obtain ⟨j, hj, rfl, HJ⟩ := hrel
    obtain ⟨oo, oc, rfl⟩ := own_slice HJ.out.1
    by_cases hlt : j < l.length
    · obtain ⟨g, q, hix, -, hg, c0'⟩ := str_at HL.out.1 hlt
      have c0 := (HJ.out.2.2.1.cell (p := ⟨g, q, none⟩) hg).trans c0'
      have hsz := HL.out.2 l[j] (List.getElem_mem hlt)
      have htk : l.take (j + 1) = l.take j ++ [l[j]] := List.take_succ_eq_append_getElem hlt
      have hlen : (l.take j).length = j := by rw [List.length_take]; omega
      generalize l[j] = s at *
      have hok := okS hsz
      have hlk := HJ.out.2.1.look keyS mapS hok
      have HT := Lib.hid (And.intro htk (And.intro hlen hok))
      clear htk hlen hok hsz c0'
      have hin : (seenF Value.string (l.take j) (.string s)).isSome = (l.take j).any fun y => same y s := by
        rw [Bool.eq_iff_iff, seen_some, List.any_eq_true]
        constructor
        · rintro ⟨x, hx, e⟩
          exact ⟨x, hx, same_iff.2 (by simpa using e)⟩
        · rintro ⟨x, hx, e⟩
          exact ⟨x, hx, by rw [same_iff.1 e]⟩
      cases hth : (l.take j).any fun y => same y s with
      | true =>
        have he : onceP same (l.take (j + 1)) = onceP same (l.take j) := by
          rw [HT.out.1, onceP_snoc, onceF, once_any (fun _ _ => same_iff), hth, if_pos rfl]
        have hse := seen_old (κ := Value.string) (l := l.take j) (x := s) (by rw [hin, hth])
        rw [hin, hth] at hlk
        have HE := Lib.hid (And.intro he hse)
        clear he hse hin hth
        go_wp2_with fail
        go_roundw
        case rel =>
          refine ⟨j + 1, by omega, by go_num, Lib.hid ⟨?_, ?_, HJ.out.2.2⟩⟩
          · rw [HE.out.1]; exact HJ.out.1
          · rw [HT.out.1, HE.out.2]; exact HJ.out.2.1.mono (by omega)
        case measure => simp [intOf]; omega
      | false =>
        have he : onceP same (l.take (j + 1)) = onceP same (l.take j) ++ [s] := by
          rw [HT.out.1, onceP_snoc, onceF, once_any (fun _ _ => same_iff), hth, if_neg (by decide)]
        have hse := seen_put (κ := Value.string) (l := l.take j) (x := s) (by rw [hin, hth])
        have hlo := (Lt.once_len (e := same) (fun _ _ => same_iff) (l.take j)).1
        rw [hin, hth] at hlk
        rw [HT.out.2.1] at hse hlo
        have HE := Lib.hid (And.intro he hse)
        clear he hse hin hth
        go_wp2_with (at_mapUpdate; refine walk_put rfl _ _ _ rfl HJ.out.2.1 keyS mapS (by omega) rfl rfl rfl HT.out.2.2 (by omega) (g := seenF Value.string (l.take j ++ [s])) ⟨HE.out.2.1, fun u _ hu => HE.out.2.2 u hu⟩ ?_)
        intro y ht hgr
        have hty : Turns (fun k => some w.heap.size = some k) wr y := Turns.of_grown hgr fun k hk => hk
        have hsy : w.heap.size + 1 ≤ y.heap.size := Nat.le_trans HJ.out.2.2.2 hty.size
        have hrow : StrRow (w.heap.size + 1) y (.slice oo (onceP same (l.take j)).length oc) (onceP same (l.take j)) := own_turn HJ.out.1 hty fun k hk e => by
          have := (World.ownsRow.lt HJ.out.1 k hk).1
          have := Option.some.inj e
          omega
        have hbl : Below w.heap.size w y := HJ.out.2.2.1.trans (hty.below HJ.out.2.2.1.size fun k hk => by have := Option.some.inj hk; omega)
        have al := Tr.fresh_one y (.cells #[.string s] 9)
        have HY := Lib.hid (And.intro (own_below hrow al) (And.intro (ht.below al) (And.intro (hbl.trans (al.mono hbl.size)) (Nat.le_trans hsy al.size))))
        obtain ⟨ti, tz, tb, TE, hT⟩ := strs_elem
        have HTE := Lib.hid (And.intro TE hT)
        clear ht hgr hty hsy hrow hbl al TE hT
        go_wp2_with (at_builtin; refine walk_rows HTE.out.1 rfl _ _ rfl rfl rfl HY.out.1 HY.out.2.2.2 (m := 1) rfl (new_cells _ _ [.string s] (by simp)) (by intro u' hu'; simp at hu'; subst hu'; rfl) (by omega) (Nat.le_trans (Nat.mul_le_mul_left _ HTE.out.2) (by omega)) ?_)
        intro v2 z2 r2 gr2 n2
        have hz2 : Turns (fun k => (Value.slice oo (onceP same (l.take j)).length oc).ownBlock = some k) _ z2 := Turns.of_grown gr2 fun k hk => hk
        have HZ := Lib.hid (And.intro r2 (And.intro (HY.out.2.1.turn hz2 fun e => by have := (World.ownsRow.lt HY.out.1 _ e).1; omega) (And.intro (HY.out.2.2.1.trans (hz2.below HY.out.2.2.1.size fun k hk => by have := (World.ownsRow.lt HY.out.1 _ hk).1; omega)) (Nat.le_trans HY.out.2.2.2 hz2.size))))
        clear r2 gr2 n2 hz2
        go_wp2_with fail
        go_roundw
        case rel =>
          refine ⟨j + 1, by omega, by go_num, Lib.hid ⟨?_, ?_, HZ.out.2.2⟩⟩
          · rw [HE.out.1]
            show World.ownsRow _ _ _ _ _ _ _
            rw [List.length_append, List.map_append]
            exact HZ.out.1
          · rw [HT.out.1]; exact HZ.out.2.1
        case measure => simp [intOf]; omega
    · have hj' : j = l.length := by omega
      subst hj'
      have hr := HJ.out.1
      rw [List.take_length] at hr
      have HR := Lib.hid (And.intro hr HJ.out.2.2.1)
      clear hr
      go_wp2_with fail
      go_ret
      refine ⟨_, rfl, ?_, HR.out.2⟩
      rw [List.take_length]
      exact World.ownsRow.mono HR.out.1 (by omega)
theorem twiceS_any (B : Nat) (l : List ByteArray) (v : Value) (w : World) (h : StrRow B w v l) (hs : ∀ s ∈ l, s.size ≤ maxLen) (hn : l.length ≤ 100000) :
    Calls Tryz.prog 104 #[v] w fun e x => e = .returned (.bool (dup same l)) ∧ Below w.heap.size w x := by
  obtain ⟨ao, cap, rfl⟩ := own_slice (show w.ownsRow B 9 1 v l.length (l.map Value.string) from h)
  have HC := Lib.hid (onceS_any B l _ w h hs hn)
  have hd := dup_lt (e := same) (fun _ _ => same_iff) l
  clear h hs
  go_enter Tryz.func104, Tryz.ntmps104
  go_wp2_with fail
  refine HC.out.mono ?_
  rintro e x ⟨u, rfl, hu, hx⟩
  obtain ⟨oo, oc, rfl⟩ := own_slice (show x.ownsRow w.heap.size 9 1 u _ _ from hu)
  have HX := Lib.hid (And.intro hx hd)
  clear hu hx hd
  go_wp2_with fail
  go_ret
  refine ⟨?_, HX.out.1⟩
  rw [← HX.out.2]
  rfl
def keyAl (a : Al) : Value := .agg #[.string a.ty, .string a.rel, .bool a.wild]
theorem keyAl_inj {a b : Al} (h : keyAl a = keyAl b) : a = b := by
  obtain ⟨a1, a2, a3⟩ := a
  obtain ⟨b1, b2, b3⟩ := b
  simp [keyAl] at h
  obtain ⟨rfl, rfl, rfl⟩ := h
  rfl
def cellsA (l : List Al) : List Value := l.flatMap fun a => [.string a.ty, .string a.rel, .bool a.wild]
def AlRow (B : Nat) (x : World) (v : Value) (l : List Al) : Prop := x.ownsRow B tAllow 3 v l.length (cellsA l)
set_option maxRecDepth 100000 in
theorem als_elem : ∃ i z b, IsElem Tryz.prog 44 tAllow i z 3 b ∧ b ≤ 100 := by
  refine ⟨_, _, _, ⟨by kernel_rfl, rfl, rfl, by kernel_rfl, rfl, by kernel_rfl, by omega⟩, ?_⟩
  exact of_decide_eq_true (by kernel_rfl)

set_option maxHeartbeats 8000000 in
set_option maxRecDepth 100000 in
theorem onceA_any (l : List Al) (ao : Option Addr) (cap : Nat) (us : List Value) (w : World) (h : Lies IsAl 3 w ao l us) (hs : ∀ a ∈ l, a.ty.size ≤ 16 ∧ a.rel.size ≤ 16) (hn : l.length ≤ 100000) :
    Calls Tryz.prog 165 #[.slice ao l.length cap] w fun e x => ∃ u, e = .returned u ∧ AlRow w.heap.size x u (onceP sameA l) ∧ Below w.heap.size w x := by
  have HL := Lib.hid (And.intro h hs)
  have hmm := make_map mapA l.length
  have hz : ∀ t, (w.alloc t).heap.size = w.heap.size + 1 := fun t => by simp
  have H0 := Lib.hid (And.intro (Tab.made tAllow w) (And.intro (Tr.fresh_one w (.map #[] 0)) (hz (.map #[] 0))))
  clear h hs hz
  go_enter Tryz.func165, Tryz.ntmps165
  go_wp2_with fail
  generalize w.alloc (.map #[] 0) = X at *
  go_loopw [4, 14] (fun fv i wr => ∃ j : Nat, j ≤ l.length ∧ i = .int .i64 j ∧ Hid (AlRow (w.heap.size + 1) wr fv (onceP sameA (l.take j)) ∧ Tab tAllow wr w.heap.size j (seenF keyAl (l.take j)) ∧ Below w.heap.size w wr ∧ w.heap.size + 1 ≤ wr.heap.size)) (fun _ i _ => l.length - (intOf i).toNat)
  case atStart => exact ⟨0, by omega, rfl, Lib.hid ⟨World.ownsRow_nil _ _ _ _, H0.out.1, H0.out.2.1, by have := H0.out.2.2; omega⟩⟩
  case round =>
    obtain ⟨j, hj, rfl, HJ⟩ := hrel
    obtain ⟨oo, oc, rfl⟩ := own_slice HJ.out.1
    by_cases hlt : j < l.length
    · obtain ⟨g, q, hix, hg, c0', c1', c2'⟩ := al_at HL.out.1 cap hlt
      have c0 := (HJ.out.2.2.1.cell (p := ⟨g, q, none⟩) hg).trans c0'
      have c1 := (HJ.out.2.2.1.cell (p := ⟨g, q + 1, none⟩) hg).trans c1'
      have c2 := (HJ.out.2.2.1.cell (p := ⟨g, q + 2, none⟩) hg).trans c2'
      have hsz := HL.out.2 l[j] (List.getElem_mem hlt)
      have htk : l.take (j + 1) = l.take j ++ [l[j]] := List.take_succ_eq_append_getElem hlt
      have hlen : (l.take j).length = j := by rw [List.length_take]; omega
      generalize l[j] = s at *
      have hok : Ok tAllow (keyAl s) := okA (by unfold maxLen; omega) (by unfold maxLen; omega)
      have hbx := heap_alloc_new wr (.cells #[.string s.ty, .string s.rel, .bool s.wild] tAllow)
      have alb := Tr.fresh_one wr (.cells #[.string s.ty, .string s.rel, .bool s.wild] tAllow)
      have hlk : (Instr.lookup 262 (.map (some w.heap.size)) (.agg #[.string s.ty, .string s.rel, .bool s.wild]) true).run Tryz.prog (wr.alloc (.cells #[.string s.ty, .string s.rel, .bool s.wild] tAllow)) = .ok (.tuple #[.int .i64 ((seenF keyAl (l.take j) (keyAl s)).getD 0), .bool (seenF keyAl (l.take j) (keyAl s)).isSome]) (wr.alloc (.cells #[.string s.ty, .string s.rel, .bool s.wild] tAllow)) := (HJ.out.2.1.below alb).look keyA mapA hok
      have hk3 := Cn.box3 hbx
      obtain ⟨e0, e1, e2⟩ := hk3
      have HB := Lib.hid (show AlRow (w.heap.size + 1) (wr.alloc (.cells #[.string s.ty, .string s.rel, .bool s.wild] tAllow)) (.slice oo (onceP sameA (l.take j)).length oc) (onceP sameA (l.take j)) ∧ Tab tAllow (wr.alloc (.cells #[.string s.ty, .string s.rel, .bool s.wild] tAllow)) w.heap.size j (seenF keyAl (l.take j)) ∧ Below w.heap.size w (wr.alloc (.cells #[.string s.ty, .string s.rel, .bool s.wild] tAllow)) ∧ w.heap.size + 1 ≤ (wr.alloc (.cells #[.string s.ty, .string s.rel, .bool s.wild] tAllow)).heap.size from
        ⟨own_below HJ.out.1 alb, HJ.out.2.1.below alb, HJ.out.2.2.1.trans (alb.mono HJ.out.2.2.1.size), Nat.le_trans HJ.out.2.2.2 alb.size⟩)
      have HC3 := Lib.hid (And.intro e0 (And.intro e1 e2))
      clear hbx alb
      have HT := Lib.hid (And.intro htk (And.intro hlen hok))
      clear htk hlen hok hsz c0' c1' c2'
      have hin : (seenF keyAl (l.take j) (keyAl s)).isSome = (l.take j).any fun y => sameA y s := by
        rw [Bool.eq_iff_iff, seen_some, List.any_eq_true]
        constructor
        · rintro ⟨x, hx, e⟩
          exact ⟨x, hx, (sameA_iff _ _).2 (keyAl_inj e)⟩
        · rintro ⟨x, hx, e⟩
          exact ⟨x, hx, by rw [(sameA_iff _ _).1 e]⟩
      cases hth : (l.take j).any fun y => sameA y s with
      | true =>
        have he : onceP sameA (l.take (j + 1)) = onceP sameA (l.take j) := by
          rw [HT.out.1, onceP_snoc, onceF, once_any sameA_iff, hth, if_pos rfl]
        have hse := seen_old (κ := keyAl) (l := l.take j) (x := s) (by rw [hin, hth])
        rw [hin, hth] at hlk
        have HE := Lib.hid (And.intro he hse)
        clear he hse hin hth
        go_wp2_with fail
        go_roundw
        case rel =>
          refine ⟨j + 1, by omega, by go_num, Lib.hid ⟨?_, ?_, HB.out.2.2⟩⟩
          · rw [HE.out.1]; exact HB.out.1
          · rw [HT.out.1, HE.out.2]; exact HB.out.2.1.mono (by omega)
        case measure => simp [intOf]; omega
      | false =>
        have he : onceP sameA (l.take (j + 1)) = onceP sameA (l.take j) ++ [s] := by
          rw [HT.out.1, onceP_snoc, onceF, once_any sameA_iff, hth, if_neg (by decide)]
        have hse := seen_put (κ := keyAl) (l := l.take j) (x := s) (by rw [hin, hth])
        have hlo := (Lt.once_len (e := sameA) sameA_iff (l.take j)).1
        rw [hin, hth] at hlk
        rw [HT.out.2.1] at hse hlo
        have HE := Lib.hid (And.intro he hse)
        clear he hse hin hth
        go_wp2_with (at_mapUpdate; refine walk_put rfl _ _ _ rfl HB.out.2.1 keyA mapA (by omega) rfl rfl rfl HT.out.2.2 (by omega) (g := seenF keyAl (l.take j ++ [s])) ⟨HE.out.2.1, fun u _ hu => HE.out.2.2 u hu⟩ ?_)
        intro y ht hgr
        have hty : Turns (fun k => some w.heap.size = some k) _ y := Turns.of_grown hgr fun k hk => hk
        have hsy : w.heap.size + 1 ≤ y.heap.size := Nat.le_trans HB.out.2.2.2 hty.size
        have hrow : AlRow (w.heap.size + 1) y (.slice oo (onceP sameA (l.take j)).length oc) (onceP sameA (l.take j)) := own_turn HB.out.1 hty fun k hk e => by
          have := (World.ownsRow.lt HB.out.1 k hk).1
          have := Option.some.inj e
          omega
        have hbl : Below w.heap.size w y := HB.out.2.2.1.trans (hty.below HB.out.2.2.1.size fun k hk => by have := Option.some.inj hk; omega)
        have e0 := (hty.cell (p := ⟨wr.heap.size, 0, none⟩) (by simp) (fun e => by have e3 : w.heap.size = wr.heap.size := Option.some.inj e; have := HJ.out.2.2.2; omega)).trans HC3.out.1
        have e1 := (hty.cell (p := ⟨wr.heap.size, 1, none⟩) (by simp) (fun e => by have e3 : w.heap.size = wr.heap.size := Option.some.inj e; have := HJ.out.2.2.2; omega)).trans HC3.out.2.1
        have e2 := (hty.cell (p := ⟨wr.heap.size, 2, none⟩) (by simp) (fun e => by have e3 : w.heap.size = wr.heap.size := Option.some.inj e; have := HJ.out.2.2.2; omega)).trans HC3.out.2.2
        have al := Tr.fresh_one y (.cells #[.string s.ty, .string s.rel, .bool s.wild] tAllow)
        have HY := Lib.hid (And.intro (own_below hrow al) (And.intro (ht.below al) (And.intro (hbl.trans (al.mono hbl.size)) (Nat.le_trans hsy al.size))))
        obtain ⟨ti, tz, tb, TE, hT⟩ := als_elem
        have HTE := Lib.hid (And.intro TE hT)
        clear ht hgr hty hsy hrow hbl al TE hT
        go_wp2_with (at_builtin; refine walk_rows HTE.out.1 rfl _ _ rfl rfl rfl HY.out.1 HY.out.2.2.2 (m := 1) rfl (new_cells _ _ [.string s.ty, .string s.rel, .bool s.wild] (by simp)) (by intro u' hu'; simp at hu'; rcases hu' with rfl | rfl | rfl <;> rfl) (by omega) (Nat.le_trans (Nat.mul_le_mul_left _ HTE.out.2) (by omega)) ?_)
        intro v2 z2 r2 gr2 n2
        have hz2 : Turns (fun k => (Value.slice oo (onceP sameA (l.take j)).length oc).ownBlock = some k) _ z2 := Turns.of_grown gr2 fun k hk => hk
        have HZ := Lib.hid (And.intro r2 (And.intro (HY.out.2.1.turn hz2 fun e => by have := (World.ownsRow.lt HY.out.1 _ e).1; omega) (And.intro (HY.out.2.2.1.trans (hz2.below HY.out.2.2.1.size fun k hk => by have := (World.ownsRow.lt HY.out.1 _ hk).1; omega)) (Nat.le_trans HY.out.2.2.2 hz2.size))))
        clear r2 gr2 n2 hz2
        go_wp2_with fail
        go_roundw
        case rel =>
          refine ⟨j + 1, by omega, by go_num, Lib.hid ⟨?_, ?_, HZ.out.2.2⟩⟩
          · rw [HE.out.1]
            show World.ownsRow _ _ _ _ _ _ _
            rw [List.length_append, cellsA, List.flatMap_append]
            exact HZ.out.1
          · rw [HT.out.1]; exact HZ.out.2.1
        case measure => simp [intOf]; omega
    · have hj' : j = l.length := by omega
      subst hj'
      have hr := HJ.out.1
      rw [List.take_length] at hr
      have HR := Lib.hid (And.intro hr HJ.out.2.2.1)
      clear hr
      go_wp2_with fail
      go_ret
      refine ⟨_, rfl, ?_, HR.out.2⟩
      rw [List.take_length]
      exact World.ownsRow.mono HR.out.1 (by omega)
theorem twiceA_any (l : List Al) (ao : Option Addr) (cap : Nat) (us : List Value) (w : World) (h : Lies IsAl 3 w ao l us) (hs : ∀ a ∈ l, a.ty.size ≤ 16 ∧ a.rel.size ≤ 16) (hn : l.length ≤ 100000) :
    Calls Tryz.prog 139 #[.slice ao l.length cap] w fun e x => e = .returned (.bool (dup sameA l)) ∧ Below w.heap.size w x := by
  have HC := Lib.hid (onceA_any l ao cap us w h hs hn)
  have hd := dup_lt (e := sameA) sameA_iff l
  clear h hs
  go_enter Tryz.func139, Tryz.ntmps139
  go_wp2_with fail
  refine HC.out.mono ?_
  rintro e x ⟨u, rfl, hu, hx⟩
  obtain ⟨oo, oc, rfl⟩ := own_slice (show x.ownsRow w.heap.size tAllow 3 u _ _ from hu)
  have HX := Lib.hid (And.intro hx hd)
  clear hu hx hd
  go_wp2_with fail
  go_ret
  refine ⟨?_, HX.out.1⟩
  rw [← HX.out.2]
  rfl
end Ly
end Go.Proofs.YtopncohhagebbaaGreatDoor

namespace Go.Proofs.YtopncohhagebbaaGreatDoor
open Go.RowKit
namespace Ly
open Tr (Nd IsExpr node4 none0 size good errOf refs RowAt own_open own_slice own_below own_turn IsElem Rf walk_rows)
open Gr (Al Rl Ty IsAl IsRl IsTy IsCf Lies cellsV al_at ty_at new_cells alV box1 box2 two_boxes)
open Cn (box3)
open Knot (Turns NewRow)
open Lt (It Re relsL relsT place Stp same same_iff lost has_place any_take)

theorem LayAt.look {w : World} {l : List Ty} {ao ro : Option Addr} {rc b : Nat} (h : LayAt w l ao ro rc b) {ty rl : ByteArray} (h1 : ty.size ≤ maxLen) (h2 : rl.size ≤ maxLen) :
    (Instr.lookup 77 (.map (some b)) (.agg #[.string ty, .string rl]) true).run Tryz.prog w = .ok (.tuple #[.int .i64 (Lt.spot (relsL l) (ty, rl)), .bool (Lt.has l ty rl)]) w := by
  obtain ⟨n, ht⟩ := h.tab
  have h3 := ht.look keyP mapP (okP h1 h2)
  have h4 : seenF keyRe (relsL l) (.agg #[.string ty, .string rl]) = (place (relsL l) (ty, rl)).map Int.ofNat := seen_place (relsL l) (ty, rl)
  have h5 : Lt.has l ty rl = (place (relsL l) (ty, rl)).isSome := has_place l (ty, rl)
  rw [h4] at h3
  rw [h3, h5, Option.isSome_map]
  unfold Lt.spot
  cases place (relsL l) (ty, rl) <;> rfl
theorem LayAt.find {w : World} {l : List Ty} {ao ro : Option Addr} {rc b : Nat} (h : LayAt w l ao ro rc b) {ty rl : ByteArray} (h1 : ty.size ≤ maxLen) (h2 : rl.size ≤ maxLen) :
    (Instr.lookup 77 (.map (some b)) (.agg #[.string ty, .string rl]) false).run Tryz.prog w = .ok (.int .i64 (Lt.spot (relsL l) (ty, rl))) w := by
  obtain ⟨n, ht⟩ := h.tab
  have h3 := ht.find keyP mapP (okP h1 h2)
  have h4 : seenF keyRe (relsL l) (.agg #[.string ty, .string rl]) = (place (relsL l) (ty, rl)).map Int.ofNat := seen_place (relsL l) (ty, rl)
  rw [h4] at h3
  rw [h3]
  unfold Lt.spot
  cases place (relsL l) (ty, rl) <;> rfl
section
variable {l : List Ty} {ao ro : Option Addr} {cap m rc b : Nat}
set_option maxHeartbeats 2000000 in
set_option maxRecDepth 100000 in
theorem hasT_any {n : Nat} {tv rv : Value} (f : Value → Option Int) (w : World) (h : Tab tSpot w b n f) (ty rl : ByteArray) (h1 : ty.size ≤ maxLen) (h2 : rl.size ≤ maxLen) :
    Calls Tryz.prog 60 #[.agg #[tv, rv, .map (some b)], .agg #[.string ty, .string rl]] w fun e x => e = .returned (.bool (f (.agg #[.string ty, .string rl])).isSome) ∧ Below w.heap.size w x := by
  obtain ⟨al, k1, k2, -⟩ := two_boxes w #[tv, rv, .map (some b)] #[.string ty, .string rl] tLay tSpot
  obtain ⟨-, -, a2⟩ := box3 k1
  obtain ⟨b0, b1⟩ := box2 k2
  have hl := (h.below al).look keyP mapP (okP h1 h2)
  have HB := Lib.hid al
  clear h al k1 k2
  go_enter Tryz.func60, Tryz.ntmps60
  go_wp2_with fail
  go_ret
  exact ⟨rfl, HB.out⟩
theorem has_any (w : World) (h : LayAt w l ao ro rc b) (ty rl : ByteArray) (h1 : ty.size ≤ maxLen) (h2 : rl.size ≤ maxLen) :
    Calls Tryz.prog 60 #[layV ao l.length cap ro m rc b, .agg #[.string ty, .string rl]] w fun e x => e = .returned (.bool (Lt.has l ty rl)) ∧ Below w.heap.size w x := by
  obtain ⟨n, ht⟩ := h.tab
  have h3 := hasT_any (tv := .slice ao l.length cap) (rv := .slice ro m rc) _ w ht ty rl h1 h2
  have h4 : seenF keyRe (relsL l) (.agg #[.string ty, .string rl]) = (place (relsL l) (ty, rl)).map Int.ofNat := seen_place (relsL l) (ty, rl)
  have h5 : Lt.has l ty rl = (place (relsL l) (ty, rl)).isSome := has_place l (ty, rl)
  rw [h4, Option.isSome_map, ← h5] at h3
  exact h3
set_option maxHeartbeats 2000000 in
set_option maxRecDepth 100000 in
theorem need_any (w : World) (h : LayAt w l ao ro rc b) (ty rl : ByteArray) (h1 : ty.size ≤ maxLen) (h2 : rl.size ≤ maxLen) :
    Calls Tryz.prog 167 #[layV ao l.length cap ro m rc b, .agg #[.string ty, .string rl]] w fun e x => e = .returned (.int .i64 (if Lt.has l ty rl then 0 else 13)) ∧ Below w.heap.size w x := by
  obtain ⟨al, k1, k2, -⟩ := two_boxes w #[.slice ao l.length cap, .slice ro m rc, .map (some b)] #[.string ty, .string rl] tLay tSpot
  obtain ⟨a0, a1, a2⟩ := box3 k1
  obtain ⟨b0, b1⟩ := box2 k2
  have HC := Lib.hid (has_any (cap := cap) (m := m) _ (h.below al) ty rl h1 h2)
  have HB := Lib.hid al
  clear h al k1 k2
  cases hh : Lt.has l ty rl with
  | false =>
    rw [hh] at HC
    clear hh
    go_enter Tryz.func167, Tryz.ntmps167
    go_wp2_with fail
    refine HC.out.mono ?_
    rintro e x ⟨rfl, hx⟩
    have HX := Lib.hid (HB.out.trans (hx.mono HB.out.size))
    clear hx
    go_wp2_with fail
    go_ret
    exact ⟨rfl, HX.out⟩
  | true =>
    rw [hh] at HC
    clear hh
    go_enter Tryz.func167, Tryz.ntmps167
    go_wp2_with fail
    refine HC.out.mono ?_
    rintro e x ⟨rfl, hx⟩
    have HX := Lib.hid (HB.out.trans (hx.mono HB.out.size))
    clear hx
    go_wp2_with fail
    go_ret
    exact ⟨rfl, HX.out⟩
end
def sev (a : Al) : Bool := !a.rel.toList.isEmpty || a.wild
set_option maxHeartbeats 2000000 in
set_option maxRecDepth 100000 in
theorem several_any (a : Al) (w : World) : Calls Tryz.prog 169 #[alV a] w fun e x => e = .returned (.bool (sev a)) ∧ Below w.heap.size w x := by
  obtain ⟨ty, rl, wd⟩ := a
  have k1 := heap_alloc_new w (.cells #[.string ty, .string rl, .bool wd] tAllow)
  obtain ⟨a0, a1, a2⟩ := box3 k1
  have HB := Lib.hid (Tr.fresh_one w (.cells #[.string ty, .string rl, .bool wd] tAllow))
  clear k1
  cases he : rl.toList.isEmpty with
  | false =>
    have HE := Lib.hid (show sev ⟨ty, rl, wd⟩ = true by simp only [sev, he]; rfl)
    go_enter Tryz.func169, Tryz.ntmps169
    go_wp2_with fail
    go_ret
    exact ⟨by rw [HE.out]; rfl, HB.out⟩
  | true =>
    have HE := Lib.hid (show sev ⟨ty, rl, wd⟩ = wd by simp only [sev, he]; rfl)
    go_enter Tryz.func169, Tryz.ntmps169
    go_wp2_with fail
    go_ret
    exact ⟨by rw [HE.out]; rfl, HB.out⟩
set_option maxHeartbeats 2000000 in
set_option maxRecDepth 100000 in
theorem lit_any (tn : ByteArray) (rv : Value) (g : Nat) (a : ByteArray) (w : World) (h : w.cell? ⟨g, 0, none⟩ = some (.string a)) :
    Calls Tryz.prog 166 #[.agg #[.string tn, rv], .pointer (some ⟨g, 0, none⟩)] w fun e x => e = .returned (.bool (same tn a)) ∧ Below w.heap.size w x := by
  have k1 := heap_alloc_new w (.cells #[.string tn, rv] 40)
  obtain ⟨a0, a1⟩ := box2 k1
  have al := Tr.fresh_one w (.cells #[.string tn, rv] 40)
  have c0 := (al.cell (p := ⟨g, 0, none⟩) (World.block_lt_of_cell? w _ h)).trans h
  have HB := Lib.hid al
  clear k1 al h
  go_enter Tryz.func166, Tryz.ntmps166
  go_wp2_with fail
  go_ret
  exact ⟨rfl, HB.out⟩
set_option maxHeartbeats 4000000 in
set_option maxRecDepth 100000 in
theorem index_sev (l : List Al) (ao : Option Addr) (cap : Nat) (us : List Value) (w : World) (h : Lies IsAl 3 w ao l us) (p : Al → Bool)
    (hf : ∀ j (hj : j < l.length)  x, Below w.heap.size w x → Calls Tryz.prog 169 #[alV l[j]] x fun e y => e = .returned (.bool (p l[j])) ∧ Below x.heap.size x y) :
    Calls Tryz.prog 115 #[.slice ao l.length cap, .func (.func 169) #[] #[]] w fun e x => ∃ z : Int, e = .returned (.int .i64 z) ∧ decide (0 ≤ z) = l.any p ∧ Below w.heap.size w x := by
  have HL := Lib.hid h
  have HF := Lib.hid hf
  have hbig : l.length ≤ 9223372036854775807 := h.big
  clear h hf
  go_enter Tryz.func115, Tryz.ntmps115
  go_wp2_with fail
  go_loopw [8] (fun i wr => ∃ j : Nat, j ≤ l.length ∧ i = .int .i64 j ∧ Hid ((l.take j).any p = false ∧ Below w.heap.size w wr)) (fun i _ => l.length - (intOf i).toNat)
  case atStart => exact ⟨0, by omega, rfl, Lib.hid ⟨by simp, Below.refl _ _⟩⟩
  case round =>
    obtain ⟨j, hj, rfl, HJ⟩ := hrel
    by_cases hlt : j < l.length
    · obtain ⟨g, q, hix, hg, c0', c1', c2'⟩ := al_at HL.out cap hlt
      have c0 := (HJ.out.2.cell (p := ⟨g, q, none⟩) hg).trans c0'
      have c1 := (HJ.out.2.cell (p := ⟨g, q + 1, none⟩) hg).trans c1'
      have c2 := (HJ.out.2.cell (p := ⟨g, q + 2, none⟩) hg).trans c2'
      clear c0' c1' c2'
      have hat := any_take (p := p) hlt
      rw [HJ.out.1, Bool.false_or] at hat
      have HC := Lib.hid (HF.out j hlt  wr HJ.out.2)
      cases hp : p l[j] with
      | true =>
        have HA := Lib.hid (show l.any p = true from List.any_eq_true.2 ⟨_, List.getElem_mem hlt, hp⟩)
        rw [hp] at HC
        clear hat hp
        go_wp2_with fail
        refine HC.out.mono ?_
        rintro e x ⟨rfl, hx⟩
        have HX := Lib.hid (HJ.out.2.trans (hx.mono HJ.out.2.size))
        clear hx
        go_wp2_with fail
        go_ret
        exact ⟨_, rfl, by rw [HA.out]; simp, HX.out⟩
      | false =>
        rw [hp] at HC hat
        have HA := Lib.hid hat
        clear hat hp
        go_wp2_with fail
        refine HC.out.mono ?_
        rintro e x ⟨rfl, hx⟩
        have HX := Lib.hid (HJ.out.2.trans (hx.mono HJ.out.2.size))
        clear hx
        go_wp2_with fail
        go_roundw
        case rel => exact ⟨j + 1, by omega, by go_num, Lib.hid ⟨HA.out, HX.out⟩⟩
        case measure => simp [intOf]; omega
    · have hj' : j = l.length := by omega
      subst hj'
      have HX := Lib.hid HJ.out
      clear HJ
      go_wp2_with fail
      go_ret
      refine ⟨_, rfl, ?_, HX.out.2⟩
      have := HX.out.1
      rw [List.take_length] at this
      rw [this]
      rfl
set_option maxHeartbeats 2000000 in
set_option maxRecDepth 100000 in
theorem contains_sev (l : List Al) (ao : Option Addr) (cap : Nat) (us : List Value) (w : World) (h : Lies IsAl 3 w ao l us) (p : Al → Bool)
    (hf : ∀ j (hj : j < l.length)  x, Below w.heap.size w x → Calls Tryz.prog 169 #[alV l[j]] x fun e y => e = .returned (.bool (p l[j])) ∧ Below x.heap.size x y) :
    Calls Tryz.prog 84 #[.slice ao l.length cap, .func (.func 169) #[] #[]] w fun e x => e = .returned (.bool (l.any p)) ∧ Below w.heap.size w x := by
  have HC := Lib.hid (index_sev l ao cap us w h p hf)
  clear h hf
  go_enter Tryz.func84, Tryz.ntmps84
  go_wp2_with fail
  refine HC.out.mono ?_
  rintro e x ⟨z, rfl, hz, hx⟩
  have HX := Lib.hid (And.intro hz hx)
  clear hz hx
  go_wp2_with fail
  go_ret
  exact ⟨by rw [← HX.out.1]; rfl, HX.out.2⟩
set_option maxHeartbeats 4000000 in
set_option maxRecDepth 100000 in
theorem index_lacks (lay : Value) (l : List Al) (ao : Option Addr) (cap : Nat) (us : List Value) (w : World) (h : Lies IsAl 3 w ao l us) (p : Al → Bool)
    (hf : ∀ j (hj : j < l.length)  x, Below w.heap.size w x → Calls Tryz.prog 140 #[lay, alV l[j]] x fun e y => e = .returned (.bool (p l[j])) ∧ Below x.heap.size x y) :
    Calls Tryz.prog 115 #[.slice ao l.length cap, .func (.func 140) #[lay] #[]] w fun e x => ∃ z : Int, e = .returned (.int .i64 z) ∧ decide (0 ≤ z) = l.any p ∧ Below w.heap.size w x := by
  have HL := Lib.hid h
  have HF := Lib.hid hf
  have hbig : l.length ≤ 9223372036854775807 := h.big
  clear h hf
  go_enter Tryz.func115, Tryz.ntmps115
  go_wp2_with fail
  go_loopw [8] (fun i wr => ∃ j : Nat, j ≤ l.length ∧ i = .int .i64 j ∧ Hid ((l.take j).any p = false ∧ Below w.heap.size w wr)) (fun i _ => l.length - (intOf i).toNat)
  case atStart => exact ⟨0, by omega, rfl, Lib.hid ⟨by simp, Below.refl _ _⟩⟩
  case round =>
    obtain ⟨j, hj, rfl, HJ⟩ := hrel
    by_cases hlt : j < l.length
    · obtain ⟨g, q, hix, hg, c0', c1', c2'⟩ := al_at HL.out cap hlt
      have c0 := (HJ.out.2.cell (p := ⟨g, q, none⟩) hg).trans c0'
      have c1 := (HJ.out.2.cell (p := ⟨g, q + 1, none⟩) hg).trans c1'
      have c2 := (HJ.out.2.cell (p := ⟨g, q + 2, none⟩) hg).trans c2'
      clear c0' c1' c2'
      have hat := any_take (p := p) hlt
      rw [HJ.out.1, Bool.false_or] at hat
      have HC := Lib.hid (HF.out j hlt  wr HJ.out.2)
      cases hp : p l[j] with
      | true =>
        have HA := Lib.hid (show l.any p = true from List.any_eq_true.2 ⟨_, List.getElem_mem hlt, hp⟩)
        rw [hp] at HC
        clear hat hp
        go_wp2_with fail
        refine HC.out.mono ?_
        rintro e x ⟨rfl, hx⟩
        have HX := Lib.hid (HJ.out.2.trans (hx.mono HJ.out.2.size))
        clear hx
        go_wp2_with fail
        go_ret
        exact ⟨_, rfl, by rw [HA.out]; simp, HX.out⟩
      | false =>
        rw [hp] at HC hat
        have HA := Lib.hid hat
        clear hat hp
        go_wp2_with fail
        refine HC.out.mono ?_
        rintro e x ⟨rfl, hx⟩
        have HX := Lib.hid (HJ.out.2.trans (hx.mono HJ.out.2.size))
        clear hx
        go_wp2_with fail
        go_roundw
        case rel => exact ⟨j + 1, by omega, by go_num, Lib.hid ⟨HA.out, HX.out⟩⟩
        case measure => simp [intOf]; omega
    · have hj' : j = l.length := by omega
      subst hj'
      have HX := Lib.hid HJ.out
      clear HJ
      go_wp2_with fail
      go_ret
      refine ⟨_, rfl, ?_, HX.out.2⟩
      have := HX.out.1
      rw [List.take_length] at this
      rw [this]
      rfl
set_option maxHeartbeats 2000000 in
set_option maxRecDepth 100000 in
theorem contains_lacks (lay : Value) (l : List Al) (ao : Option Addr) (cap : Nat) (us : List Value) (w : World) (h : Lies IsAl 3 w ao l us) (p : Al → Bool)
    (hf : ∀ j (hj : j < l.length)  x, Below w.heap.size w x → Calls Tryz.prog 140 #[lay, alV l[j]] x fun e y => e = .returned (.bool (p l[j])) ∧ Below x.heap.size x y) :
    Calls Tryz.prog 84 #[.slice ao l.length cap, .func (.func 140) #[lay] #[]] w fun e x => e = .returned (.bool (l.any p)) ∧ Below w.heap.size w x := by
  have HC := Lib.hid (index_lacks lay l ao cap us w h p hf)
  clear h hf
  go_enter Tryz.func84, Tryz.ntmps84
  go_wp2_with fail
  refine HC.out.mono ?_
  rintro e x ⟨z, rfl, hz, hx⟩
  have HX := Lib.hid (And.intro hz hx)
  clear hz hx
  go_wp2_with fail
  go_ret
  exact ⟨by rw [← HX.out.1]; rfl, HX.out.2⟩
set_option maxHeartbeats 4000000 in
set_option maxRecDepth 100000 in
theorem index_name (pv : Value) (l : List Ty) (ao : Option Addr) (cap : Nat) (us : List Value) (w : World) (h : Lies IsTy 2 w ao l us) (p : Ty → Bool)
    (hf : ∀ j (hj : j < l.length) (rv : Value) x, Below w.heap.size w x → Calls Tryz.prog 166 #[.agg #[.string l[j].name, rv], pv] x fun e y => e = .returned (.bool (p l[j])) ∧ Below x.heap.size x y) :
    Calls Tryz.prog 77 #[.slice ao l.length cap, .func (.func 166) #[] #[pv]] w fun e x => ∃ z : Int, e = .returned (.int .i64 z) ∧ decide (0 ≤ z) = l.any p ∧ Below w.heap.size w x := by
  have HL := Lib.hid h
  have HF := Lib.hid hf
  have hbig : l.length ≤ 9223372036854775807 := h.big
  clear h hf
  go_enter Tryz.func77, Tryz.ntmps77
  go_wp2_with fail
  go_loopw [8] (fun i wr => ∃ j : Nat, j ≤ l.length ∧ i = .int .i64 j ∧ Hid ((l.take j).any p = false ∧ Below w.heap.size w wr)) (fun i _ => l.length - (intOf i).toNat)
  case atStart => exact ⟨0, by omega, rfl, Lib.hid ⟨by simp, Below.refl _ _⟩⟩
  case round =>
    obtain ⟨j, hj, rfl, HJ⟩ := hrel
    by_cases hlt : j < l.length
    · obtain ⟨g, q, ro, rc, vs, hix, hg, c0', c1', hla⟩ := ty_at HL.out cap hlt
      have c0 := (HJ.out.2.cell (p := ⟨g, q, none⟩) hg).trans c0'
      have c1 := (HJ.out.2.cell (p := ⟨g, q + 1, none⟩) hg).trans c1'
      clear c0' c1' hla
      have hat := any_take (p := p) hlt
      rw [HJ.out.1, Bool.false_or] at hat
      have HC := Lib.hid (HF.out j hlt (.slice ro l[j].rels.length rc) wr HJ.out.2)
      cases hp : p l[j] with
      | true =>
        have HA := Lib.hid (show l.any p = true from List.any_eq_true.2 ⟨_, List.getElem_mem hlt, hp⟩)
        rw [hp] at HC
        clear hat hp
        go_wp2_with fail
        refine HC.out.mono ?_
        rintro e x ⟨rfl, hx⟩
        have HX := Lib.hid (HJ.out.2.trans (hx.mono HJ.out.2.size))
        clear hx
        go_wp2_with fail
        go_ret
        exact ⟨_, rfl, by rw [HA.out]; simp, HX.out⟩
      | false =>
        rw [hp] at HC hat
        have HA := Lib.hid hat
        clear hat hp
        go_wp2_with fail
        refine HC.out.mono ?_
        rintro e x ⟨rfl, hx⟩
        have HX := Lib.hid (HJ.out.2.trans (hx.mono HJ.out.2.size))
        clear hx
        go_wp2_with fail
        go_roundw
        case rel => exact ⟨j + 1, by omega, by go_num, Lib.hid ⟨HA.out, HX.out⟩⟩
        case measure => simp [intOf]; omega
    · have hj' : j = l.length := by omega
      subst hj'
      have HX := Lib.hid HJ.out
      clear HJ
      go_wp2_with fail
      go_ret
      refine ⟨_, rfl, ?_, HX.out.2⟩
      have := HX.out.1
      rw [List.take_length] at this
      rw [this]
      rfl
set_option maxHeartbeats 2000000 in
set_option maxRecDepth 100000 in
theorem contains_name (pv : Value) (l : List Ty) (ao : Option Addr) (cap : Nat) (us : List Value) (w : World) (h : Lies IsTy 2 w ao l us) (p : Ty → Bool)
    (hf : ∀ j (hj : j < l.length) (rv : Value) x, Below w.heap.size w x → Calls Tryz.prog 166 #[.agg #[.string l[j].name, rv], pv] x fun e y => e = .returned (.bool (p l[j])) ∧ Below x.heap.size x y) :
    Calls Tryz.prog 81 #[.slice ao l.length cap, .func (.func 166) #[] #[pv]] w fun e x => e = .returned (.bool (l.any p)) ∧ Below w.heap.size w x := by
  have HC := Lib.hid (index_name pv l ao cap us w h p hf)
  clear h hf
  go_enter Tryz.func81, Tryz.ntmps81
  go_wp2_with fail
  refine HC.out.mono ?_
  rintro e x ⟨z, rfl, hz, hx⟩
  have HX := Lib.hid (And.intro hz hx)
  clear hz hx
  go_wp2_with fail
  go_ret
  exact ⟨by rw [← HX.out.1]; rfl, HX.out.2⟩
section
variable {l : List Ty} {ao ro : Option Addr} {cap m rc b : Nat}
theorem lost_is (a : Al) : lost l a = if a.rel.toList.isEmpty then !(l.any fun t => same t.name a.ty) else !Lt.has l a.ty a.rel := by
  unfold lost
  cases he : a.rel.toList.isEmpty with
  | true => simp
  | false =>
    rw [if_neg (by decide)]
    cases hh : Lt.has l a.ty a.rel with
    | false => simp
    | true =>
      have h1 : (place (relsL l) (a.ty, a.rel)).isSome = true := by
        rw [← has_place]
        exact hh
      obtain ⟨x, hx, e⟩ := Lt.place_iff.1 h1
      obtain ⟨t, ht, hx⟩ := List.mem_flatMap.1 hx
      obtain ⟨r, hr, rfl⟩ := List.mem_map.1 hx
      have h2 : (l.any fun t => same t.name a.ty) = true := List.any_eq_true.2 ⟨t, ht, by rw [same_iff]; exact congrArg Prod.fst e⟩
      rw [h2]
      rfl
set_option maxHeartbeats 4000000 in
set_option maxRecDepth 100000 in
theorem lacks_any (w : World) (h : LayAt w l ao ro rc b) (a : Al) (h1 : a.ty.size ≤ 16) (h2 : a.rel.size ≤ 16) :
    Calls Tryz.prog 140 #[layV ao l.length cap ro m rc b, alV a] w fun e x => e = .returned (.bool (lost l a)) ∧ Below w.heap.size w x := by
  have hlost := lost_is (l := l) a
  obtain ⟨ty, rl, wd⟩ := a
  obtain ⟨al, k1, k2, hsz⟩ := two_boxes w #[.slice ao l.length cap, .slice ro m rc, .map (some b)] #[.string ty, .string rl, .bool wd] tLay tAllow
  obtain ⟨a0, a1, a2⟩ := box3 k1
  obtain ⟨b0, b1, b2⟩ := box3 k2
  have HB := Lib.hid (And.intro al (h.below al))
  have hm : (16 : Nat) ≤ maxLen := by decide
  have HS := Lib.hid (And.intro (Nat.le_trans h1 hm) (Nat.le_trans h2 hm))
  cases he : rl.toList.isEmpty with
  | false =>
    have HC := Lib.hid (has_any (cap := cap) (m := m) _ HB.out.2 ty rl HS.out.1 HS.out.2)
    have HE := Lib.hid (show lost l ⟨ty, rl, wd⟩ = !Lt.has l ty rl by rw [hlost]; simp only [he]; rfl)
    clear h al k1 k2 h1 h2 hm hlost
    go_enter Tryz.func140, Tryz.ntmps140
    go_wp2_with fail
    refine HC.out.mono ?_
    rintro e x ⟨rfl, hx⟩
    have HX := Lib.hid (HB.out.1.trans (hx.mono HB.out.1.size))
    clear hx
    go_wp2_with fail
    go_ret
    exact ⟨by rw [HE.out]; rfl, HX.out⟩
  | true =>
    obtain ⟨us, hty⟩ := HB.out.2.types
    have HC := Lib.hid (contains_name (.pointer (some ⟨w.heap.size + 1, 0, none⟩)) l ao cap us _ hty (fun t => same t.name ty) fun j hj rv x hx => lit_any l[j].name rv (w.heap.size + 1) ty x ((hx.cell (p := ⟨w.heap.size + 1, 0, none⟩) (by simp only; omega)).trans b0))
    have HE := Lib.hid (show lost l ⟨ty, rl, wd⟩ = !(l.any fun t => same t.name ty) by rw [hlost]; simp only [he]; rfl)
    clear h al k1 k2 h1 h2 hm hlost hty
    go_enter Tryz.func140, Tryz.ntmps140
    go_wp2_with fail
    refine HC.out.mono ?_
    rintro e x ⟨rfl, hx⟩
    have HX := Lib.hid (HB.out.1.trans (hx.mono HB.out.1.size))
    clear hx
    go_wp2_with fail
    go_ret
    exact ⟨by rw [HE.out]; rfl, HX.out⟩
end
end Ly
end Go.Proofs.YtopncohhagebbaaGreatDoor

namespace Go.Proofs.YtopncohhagebbaaGreatDoor
open Go.RowKit
namespace Ly
open Tr (Nd IsExpr node4 none0 size good errOf refs RowAt own_open own_slice own_below own_turn IsElem Rf walk_rows isThis Plain_any)
open Gr (Al Rl Ty IsAl IsRl IsTy IsCf Lies cellsV al_at ty_at new_cells alV box1 box2 two_boxes)
open Cn (box3)
open Knot (Turns NewRow)
open Lt (It Re relsL relsT place Stp same same_iff lost has_place any_take refP typesP types_mem rel_at relC)

abbrev tRf : TypeId := 173
abbrev refV (x : Rf) : Value := .agg #[.string x.via, .string x.rel, .bool x.odd]
theorem box9 {x : World} {R : Nat} {T : TypeId} {a b c d e f g h i : Value} (k : x.heap[R]? = some (.cells #[a, b, c, d, e, f, g, h, i] T (0, 0))) :
    x.cell? ⟨R, 0, none⟩ = some a ∧ x.cell? ⟨R, 1, none⟩ = some b ∧ x.cell? ⟨R, 2, none⟩ = some c ∧ x.cell? ⟨R, 3, none⟩ = some d ∧ x.cell? ⟨R, 4, none⟩ = some e ∧ x.cell? ⟨R, 5, none⟩ = some f ∧ x.cell? ⟨R, 6, none⟩ = some g ∧ x.cell? ⟨R, 7, none⟩ = some h ∧ x.cell? ⟨R, 8, none⟩ = some i :=
  ⟨by rw [Lib.cell_of_heap k]; rfl, by rw [Lib.cell_of_heap k]; rfl, by rw [Lib.cell_of_heap k]; rfl, by rw [Lib.cell_of_heap k]; rfl, by rw [Lib.cell_of_heap k]; rfl, by rw [Lib.cell_of_heap k]; rfl, by rw [Lib.cell_of_heap k]; rfl, by rw [Lib.cell_of_heap k]; rfl, by rw [Lib.cell_of_heap k]; rfl⟩
theorem this_kind (n : Nd) : isThis n = (n.kind == 1) := by cases n; rfl
theorem refP_alt {l : List Ty} {ty : ByteArray} {x : Rf} {v : Rl} (hv : x.via.toList.isEmpty = false) (hr : relC l ty x.via = some v) :
    refP l ty x = if (!isThis v.expr || v.allow.any sev) = true then 15 else if (v.allow.all fun a => Lt.has l a.ty x.rel) = true then 0 else 13 := by
  rw [refP, if_neg (by rw [hv]; decide), hr]
  simp only
  rw [this_kind]
  have h1 : ((typesP v.allow).all fun t => Lt.has l t x.rel) = v.allow.all fun a => Lt.has l a.ty x.rel := by
    rw [Bool.eq_iff_iff, List.all_eq_true, List.all_eq_true]
    constructor
    · exact fun h a ha => h _ (types_mem.2 ⟨a, ha, rfl⟩)
    · intro h t ht
      obtain ⟨a, ha, rfl⟩ := types_mem.1 ht
      exact h a ha
  rw [h1]
  by_cases hk : v.expr.kind = 1
  · rw [if_neg (by simpa using hk)]
    have : (v.expr.kind == 1) = true := by simpa using hk
    rw [this]
    simp only [Bool.not_true, Bool.false_or]
    rfl
  · rw [if_pos hk]
    have : (v.expr.kind == 1) = false := by simpa using hk
    rw [this]
    simp
theorem all_take {α : Type} {p : α → Bool} {l : List α} {k : Nat} (h : k < l.length) : (l.take (k + 1)).all p = ((l.take k).all p && p l[k]) := by
  rw [List.take_succ_eq_append_getElem h, List.all_append, List.all_cons, List.all_nil, Bool.and_true]
theorem box2s {x : World} {R : Nat} {a b : ByteArray} (h : x.heap[R]? = some (.cells #[.string a, .string b] tSpot (0, 0))) : x.cell? ⟨R, 0, none⟩ = some (.string a) ∧ x.cell? ⟨R, 1, none⟩ = some (.string b) ∧ x.frozen? ⟨R, 0, none⟩ = false ∧ x.frozen? ⟨R, 1, none⟩ = false :=
  ⟨by rw [Lib.cell_of_heap h]; rfl, by rw [Lib.cell_of_heap h]; rfl, Lib.frozen_of_heap h _, Lib.frozen_of_heap h _⟩
theorem wp_fill {o : Oper} {a : Act} {w : World} {K : Act → World → Prop} {Q : Exit → Act → World → Prop} (ty : TypeId) (p q : Operand) (ho : o.op = .store ty p q)
    {g : Nat} {cells : Array Value} (hx : a.eval p = .pointer (some ⟨g, 0, none⟩)) (hy : a.eval q = .agg cells)
    {t : TypeId} {old : Array Value} (hg : w.heap[g]? = some (.cells old t (0, 0))) (hi : (Tryz.prog.info? ty).map (·.size) = some cells.size)
    (hold : old.size = cells.size) (h1 : cells.all (·.oneCell') = true)
    (h : ∀ y, y.heap[g]? = some (.cells cells t (0, 0)) → Turns (fun k => k = g) w y → K (a.put o.dst undef) y) : o.wp Tryz.prog a w K Q := by
  refine wp_store_row ty p q ho g cells hx hy t old hg hi hold h1 (h _ ?_ ?_)
  · simp [World.setRow, Array.getElem?_modify, hg]
  · refine ⟨rfl, rfl, rfl, by simp [World.setRow], fun k hk hn => ?_⟩
    simp [World.setRow, Array.getElem?_modify, show ¬ g = k from fun e => hn e.symm]
theorem info_re : (Tryz.prog.info? tRe).map (·.size) = some 9 := by kernel_rfl
abbrev reC (t r nm : ByteArray) (al : Value) (k : Int) (a b : ByteArray) (kids ev : Value) : Array Value := #[.string t, .string r, .string nm, al, .int .i64 k, .string a, .string b, kids, ev]
theorem re_one {t r nm a b : ByteArray} {o1 o2 : Option Addr} {n1 n2 c1 c2 : Nat} {k : Int} {B : Nat} {w : World} {n : Nd} {ev : Value} (h : IsExpr B w n ev) : (reC t r nm (.slice o1 n1 c1) k a b (.slice o2 n2 c2) ev).all (·.oneCell') = true := by
  obtain ⟨et, eu, rfl⟩ := h.iface
  refine Array.all_eq_true_iff_forall_mem.2 fun v hv => ?_
  simp [reC] at hv
  rcases hv with rfl | rfl | rfl | rfl | rfl | rfl | rfl | rfl | rfl <;> rfl
section
variable {l : List Ty} {ao ro : Option Addr} {cap rc b : Nat}
set_option maxHeartbeats 8000000 in
set_option maxRecDepth 100000 in
theorem refFault_any (hw : Wd l) (w : World) (h : LayAt w l ao ro rc b) (ty : ByteArray) (x : Rf) (h1 : ty.size ≤ 16) (h2 : x.via.size ≤ 16 ∧ x.rel.size ≤ 16) :
    Calls Tryz.prog 141 #[layV ao l.length cap ro (relsL l).length rc b, .string ty, refV x] w fun e y => e = .returned (.int .i64 (refP l ty x)) ∧ Below w.heap.size w y := by
  obtain ⟨via, rel, odd⟩ := x
  have hm : (16 : Nat) ≤ maxLen := by decide
  have HN := Lib.hid (fun z (hb : Below w.heap.size w z) (a r : ByteArray) (ha : a.size ≤ 16) (hr : r.size ≤ 16) => need_any (cap := cap) (m := (relsL l).length) z (h.below hb) a r (Nat.le_trans ha hm) (Nat.le_trans hr hm))
  have HLay := Lib.hid h
  have HS := Lib.hid (And.intro h1 h2)
  have HM := Lib.hid (And.intro hm hw)
  obtain ⟨q1, q2, q3, q4⟩ := two_boxes w #[.slice ao l.length cap, .slice ro (relsL l).length rc, .map (some b)] #[.string via, .string rel, .bool odd] tLay tRf
  have H0 := Lib.hid (And.intro q1 (And.intro q2 (And.intro q3 q4)))
  clear h h1 h2 hm hw q1 q2 q3 q4
  go_enter Tryz.func141, Tryz.ntmps141
  go_upto_region 1 with fail
  generalize (w.alloc (.cells #[.slice ao l.length cap, .slice ro (relsL l).length rc, .map (some b)] tLay)).alloc (.cells #[.string via, .string rel, .bool odd] tRf) = X at *
  obtain ⟨b0, b1, b2⟩ := box3 H0.out.2.1
  obtain ⟨d0, d1, d2⟩ := box3 H0.out.2.2.1
  cases hnm : via.toList.isEmpty with
  | true =>
    have HC := Lib.hid (HN.out X H0.out.1 ty rel HS.out.1 HS.out.2.2)
    have hHE : refP l ty ⟨via, rel, odd⟩ = if Lt.has l ty rel then 0 else 13 := by rw [refP, if_pos hnm]
    cases hh : Lt.has l ty rel with
    | true =>
      rw [hh] at HC hHE
      have HE := Lib.hid hHE
      clear hh hHE
      go_wp2_with fail
      refine HC.out.mono ?_
      rintro e x ⟨rfl, hx⟩
      have HX := Lib.hid (H0.out.1.trans (hx.mono H0.out.1.size))
      clear hx
      go_wp2_with fail
      go_ret
      exact ⟨by rw [HE.out]; rfl, HX.out⟩
    | false =>
      rw [hh] at HC hHE
      have HE := Lib.hid hHE
      clear hh hHE
      go_wp2_with fail
      refine HC.out.mono ?_
      rintro e x ⟨rfl, hx⟩
      have HX := Lib.hid (H0.out.1.trans (hx.mono H0.out.1.size))
      clear hx
      go_wp2_with fail
      go_ret
      exact ⟨by rw [HE.out]; rfl, HX.out⟩
  | false =>
    have al := Tr.fresh_one X (.cells #[.string ty, .string via] tSpot)
    have hk := heap_alloc_new X (.cells #[.string ty, .string via] tSpot)
    have hs := H0.out.2.2.2
    have H1 := Lib.hid (And.intro (H0.out.1.trans (al.mono H0.out.1.size)) (And.intro ((al.block _ (by omega)).trans H0.out.2.1) (And.intro ((al.block _ (by omega)).trans H0.out.2.2.1) hk)))
    have HC := Lib.hid (HN.out _ H1.out.1 ty via HS.out.1 HS.out.2.1)
    have hsz : X.heap.size = w.heap.size + 2 ∧ X.heap.size + 1 = (X.alloc (.cells #[.string ty, .string via] tSpot)).heap.size := ⟨hs, by simp⟩
    have HSZ := Lib.hid hsz
    clear al hk hs hsz
    go_upto_region 4 with fail
    clear b0 b1 b2 d0 d1 d2
    generalize X.alloc (.cells #[.string ty, .string via] tSpot) = Y at *
    obtain ⟨b0, b1, b2⟩ := box3 H1.out.2.1
    obtain ⟨e0, e1⟩ := box2 H1.out.2.2.2
    cases hh : Lt.has l ty via with
    | false =>
      rw [hh] at HC
      have hrn : relC l ty via = none := by
        rw [Lt.has] at hh
        cases hr : relC l ty via with
        | none => rfl
        | some r => rw [hr] at hh; cases hh
      have HE := Lib.hid (show refP l ty ⟨via, rel, odd⟩ = 13 by rw [refP, if_neg (by rw [hnm]; decide), hrn])
      clear hh hrn
      go_wp2_with fail
      refine HC.out.mono ?_
      rintro e x ⟨rfl, hx⟩
      have HX := Lib.hid (H1.out.1.trans (hx.mono H1.out.1.size))
      clear hx
      go_wp2_with fail
      go_ret
      exact ⟨by rw [HE.out]; rfl, HX.out⟩
    | true =>
      rw [hh] at HC
      have hpl : (place (relsL l) (ty, via)).isSome = true := by rw [← has_place]; exact hh
      obtain ⟨j, hj⟩ := Option.isSome_iff_exists.1 hpl
      obtain ⟨hjl, hrc⟩ := rel_at hj
      have hHE := refP_alt (x := ⟨via, rel, odd⟩) hnm hrc
      have hspot : Lt.spot (relsL l) (ty, via) = j := Lt.spot_place hj
      have hwd := HM.out.2.mem (List.getElem_mem hjl)
      clear hh hpl hj hrc
      go_wp2_with fail
      refine HC.out.mono ?_
      rintro e y ⟨rfl, hx⟩
      have hxs := hx.size
      have H2 := Lib.hid (And.intro (H1.out.1.trans (hx.mono H1.out.1.size)) (And.intro ((hx.block _ (by have := HSZ.out; omega)).trans H1.out.2.1) (And.intro ((hx.block _ (by have := HSZ.out; omega)).trans H1.out.2.2.1) ((hx.block _ (by have := HSZ.out; omega)).trans H1.out.2.2.2))))
      clear b0 b1 b2 e0 e1 HC hx
      obtain ⟨b0, b1, b2⟩ := box3 H2.out.2.1
      obtain ⟨d0, d1, d2⟩ := box3 H2.out.2.2.1
      obtain ⟨e0, e1⟩ := box2 H2.out.2.2.2
      have HL2 := Lib.hid (HLay.out.below H2.out.1)
      obtain ⟨rvs, hrels⟩ := HL2.out.rels
      obtain ⟨g, q, vo, vc, no, nc, ev, us, hix, hg, ⟨c0, c1, c2, c3, c4, c5, c6, c7, c8⟩, hla, hex⟩ := re_at hrels rc hjl
      have hlk := fun x (hx : Below y.heap.size y x) => (HL2.out.below hx).find (Nat.le_trans HS.out.1 HM.out.1) (Nat.le_trans HS.out.2.1 HM.out.1)
      rw [hspot] at hlk
      generalize (relsL l)[j] = rr at *
      obtain ⟨⟨rt, rn⟩, r⟩ := rr
      simp only at c0 c1 c2 c3 c4 c5 c6 c7 c8 hla hex hHE hwd
      go_upto_region 7 with fail
      have HX := Lib.hid (show ∀ x, Below y.heap.size y.drew x → (x.cell? ⟨w.heap.size, 1, none⟩ = some (.slice ro (relsL l).length rc) ∧ x.cell? ⟨w.heap.size, 2, none⟩ = some (.map (some b))) ∧ (x.cell? ⟨X.heap.size, 0, none⟩ = some (.string ty) ∧ x.cell? ⟨X.heap.size, 1, none⟩ = some (.string via)) ∧
          (Instr.lookup 77 (.map (some b)) (.agg #[.string ty, .string via]) false).run Tryz.prog x = .ok (.int .i64 (j : Int)) x ∧
          x.cell? ⟨g, q, none⟩ = some (.string rt) ∧ x.cell? ⟨g, q + 1, none⟩ = some (.string rn) ∧ x.cell? ⟨g, q + 2, none⟩ = some (.string r.name) ∧ x.cell? ⟨g, q + 3, none⟩ = some (.slice vo r.allow.length vc) ∧ x.cell? ⟨g, q + 4, none⟩ = some (.int .i64 r.expr.kind) ∧
            x.cell? ⟨g, q + 5, none⟩ = some (.string r.expr.ta) ∧ x.cell? ⟨g, q + 6, none⟩ = some (.string r.expr.tb) ∧ x.cell? ⟨g, q + 7, none⟩ = some (.slice no r.expr.kids.length nc) ∧ x.cell? ⟨g, q + 8, none⟩ = some ev from fun x hx => by
        have hb : Below y.heap.size y x := (Below.refl _ _).drew.trans hx
        have hs := HSZ.out
        exact ⟨⟨(hb.cell (p := ⟨w.heap.size, 1, none⟩) (by simp only; omega)).trans b1, (hb.cell (p := ⟨w.heap.size, 2, none⟩) (by simp only; omega)).trans b2⟩, ⟨(hb.cell (p := ⟨X.heap.size, 0, none⟩) (by simp only; omega)).trans e0, (hb.cell (p := ⟨X.heap.size, 1, none⟩) (by simp only; omega)).trans e1⟩, hlk x hb,
          (hb.cell (p := ⟨g, q, none⟩) hg).trans c0, (hb.cell (p := ⟨g, q + 1, none⟩) hg).trans c1, (hb.cell (p := ⟨g, q + 2, none⟩) hg).trans c2, (hb.cell (p := ⟨g, q + 3, none⟩) hg).trans c3, (hb.cell (p := ⟨g, q + 4, none⟩) hg).trans c4, (hb.cell (p := ⟨g, q + 5, none⟩) hg).trans c5, (hb.cell (p := ⟨g, q + 6, none⟩) hg).trans c6, (hb.cell (p := ⟨g, q + 7, none⟩) hg).trans c7, (hb.cell (p := ⟨g, q + 8, none⟩) hg).trans c8⟩)
      clear b0 b1 b2 d0 d1 d2 e0 e1 c0 c1 c2 c3 c4 c5 c6 c7 c8 hlk hg
      refine Order.region_begin (S := Below y.heap.size y.drew) (by kernel_rfl) ?_
      refine Order.reads_any (idx := [0, 1, 2, 3, 4, 5, 6, 7]) (by kernel_rfl) (Below.refl _ _) (fun _ _ _ _ _ h => Order.noPanic_put h) 2 _ _ (by decide +kernel) ?_
      simp only [Order.pick, List.getElem?_toArray, List.getElem?_cons_zero, List.getElem?_cons_succ]
      repeat (first
        | (refine Order.reads_off (by rfl) ?_
           simp only [Act.put, List.setIfInBounds_toArray, List.set_cons_zero, List.set_cons_succ])
        | (apply Order.reads_on
           · rfl
           · intro x hx
             first
               | (go_simp; rfl)
               | (obtain ⟨⟨i1, i2⟩, ⟨i3, i4⟩, i5, k0, k1, k2, k3, k4, k5, k6, k7, k8⟩ := HX.out x hx
                  go_simp; rfl)
           simp only [Act.put, List.setIfInBounds_toArray, List.set_cons_zero, List.set_cons_succ]))
      refine Order.reads_end ?_
      apply Order.acts_any (R := (Below y.heap.size)) (fun h k => h.trans k) (i := 8)
      · rfl
      · decide +kernel
      · rfl
      unfold Oper.wp
      go_simp
      have h8 : (y.alloc (.cells #[.string ⟨#[]⟩, .string ⟨#[]⟩, .string ⟨#[]⟩, .slice none 0 0, .int .i64 0, .string ⟨#[]⟩, .string ⟨#[]⟩, .slice none 0 0, .nilIface] tRe)).drew.heap[y.heap.size]? = some (.cells #[.string ⟨#[]⟩, .string ⟨#[]⟩, .string ⟨#[]⟩, .slice none 0 0, .int .i64 0, .string ⟨#[]⟩, .string ⟨#[]⟩, .slice none 0 0, .nilIface] tRe (0, 0)) := heap_alloc_new y _
      have al8 : Below y.heap.size y.drew (y.alloc (.cells #[.string ⟨#[]⟩, .string ⟨#[]⟩, .string ⟨#[]⟩, .slice none 0 0, .int .i64 0, .string ⟨#[]⟩, .string ⟨#[]⟩, .slice none 0 0, .nilIface] tRe)).drew := ⟨rfl, rfl, rfl, (Tr.fresh_one y _).size, fun i hi => (Tr.fresh_one y _).block i hi⟩
      refine ⟨al8, ?_⟩
      generalize (y.alloc (.cells #[.string ⟨#[]⟩, .string ⟨#[]⟩, .string ⟨#[]⟩, .slice none 0 0, .int .i64 0, .string ⟨#[]⟩, .string ⟨#[]⟩, .slice none 0 0, .nilIface] tRe)).drew = Y8 at *
      apply Order.acts_any (R := (Below y.heap.size)) (fun h k => h.trans k) (i := 9)
      · rfl
      · decide +kernel
      · rfl
      simp only [List.getElem_toArray, List.getElem_cons_succ, List.getElem_cons_zero]
      refine wp_fill tRe (.tmp 9) (.tmp 39) rfl (cells := reC rt rn r.name (.slice vo r.allow.length vc) r.expr.kind r.expr.ta r.expr.tb (.slice no r.expr.kids.length nc) ev) (by rfl) (by rfl) h8 info_re rfl (re_one hex) ?_
      intro Z hZ htZ
      have hbZ : Below y.heap.size Y8 Z := htZ.below al8.size fun k e => by omega
      refine ⟨hbZ, ?_⟩
      have H3 := Lib.hid (show Below y.heap.size y Z ∧ Z.heap[y.heap.size]? = some (.cells (reC rt rn r.name (.slice vo r.allow.length vc) r.expr.kind r.expr.ta r.expr.tb (.slice no r.expr.kids.length nc) ev) tRe (0, 0)) from ⟨(Below.refl _ _).drew.trans (al8.trans hbZ), hZ⟩)
      clear h8 al8 hZ htZ hbZ
      simp only [Act.put]
      refine wpAnyH_done (by decide +kernel) ?_ _
      refine NoPanic.normal ?_
      have HLA := Lib.hid (And.intro (hla.on H3.out.1 fun _ _ h => h) (hex.below H3.out.1))
      have hzs := H3.out.1.size
      have HW := Lib.hid (show Below w.heap.size w Z ∧ Z.heap[w.heap.size]? = _ ∧ Z.heap[w.heap.size + 1]? = _ from ⟨H2.out.1.trans (H3.out.1.mono H2.out.1.size), (H3.out.1.block _ (by have := HSZ.out; omega)).trans H2.out.2.1, (H3.out.1.block _ (by have := HSZ.out; omega)).trans H2.out.2.2.1⟩)
      have HSY := Lib.hid (show w.heap.size + 3 ≤ y.heap.size ∧ y.heap.size < Z.heap.size from ⟨by have := HSZ.out; omega, (Array.getElem?_eq_some_iff.1 H3.out.2).1⟩)
      have HP := Lib.hid (Plain_any r.expr ev Z HLA.out.2)
      have HWD := Lib.hid hwd
      clear HX hla hex hzs hwd HN HL2 hrels
      obtain ⟨b0, b1, b2⟩ := box3 HW.out.2.1
      obtain ⟨d0, d1, d2⟩ := box3 HW.out.2.2
      obtain ⟨k0, k1, k2, k3, k4, k5, k6, k7, k8⟩ := box9 H3.out.2
      cases hpl : isThis r.expr with
      | false =>
        rw [hpl] at HP
        have HE := Lib.hid (show refP l ty ⟨via, rel, odd⟩ = 15 by rw [hHE, hpl]; rfl)
        clear hpl hHE
        go_wp2_with fail
        refine HP.out.mono ?_
        rintro e x ⟨rfl, hx⟩
        have HX := Lib.hid (HW.out.1.trans (hx.mono HW.out.1.size))
        clear hx
        go_wp2_with fail
        go_ret
        exact ⟨by rw [HE.out]; rfl, HX.out⟩
      | true =>
        rw [hpl] at HP hHE
        clear hpl
        go_wp2_with fail
        refine HP.out.mono ?_
        rintro e Z1 ⟨rfl, hx⟩
        have hzs := hx.size
        have HW1 := Lib.hid (show Below w.heap.size w Z1 ∧ Z1.heap[w.heap.size]? = _ ∧ Z1.heap[w.heap.size + 1]? = _ ∧ Z1.heap[y.heap.size]? = _ from ⟨HW.out.1.trans (hx.mono HW.out.1.size), (hx.block _ (by have := HSY.out; omega)).trans HW.out.2.1, (hx.block _ (by have := HSY.out; omega)).trans HW.out.2.2, (hx.block _ HSY.out.2).trans H3.out.2⟩)
        have HLA1 := Lib.hid (HLA.out.1.on hx fun _ _ h => h)
        clear b0 b1 b2 d0 d1 d2 k0 k1 k2 k3 k4 k5 k6 k7 k8
        obtain ⟨b0, b1, b2⟩ := box3 HW1.out.2.1
        obtain ⟨d0, d1, d2⟩ := box3 HW1.out.2.2.1
        obtain ⟨k0, k1, k2, k3, k4, k5, k6, k7, k8⟩ := box9 HW1.out.2.2.2
        have HCS := Lib.hid (contains_sev r.allow vo vc us Z1 HLA1.out sev fun j hj x hx => several_any _ x)
        have HSZ1 := Lib.hid (show w.heap.size + 3 ≤ y.heap.size ∧ y.heap.size < Z1.heap.size from ⟨HSY.out.1, by have := HSY.out; omega⟩)
        clear hx hzs HP HLA HW HSY H3
        cases hsv : r.allow.any sev with
        | true =>
          rw [hsv] at HCS
          have HE := Lib.hid (show refP l ty ⟨via, rel, odd⟩ = 15 by rw [hHE, hsv]; rfl)
          clear hsv hHE
          go_wp2_with fail
          refine HCS.out.mono ?_
          rintro e x ⟨rfl, hx⟩
          have HX := Lib.hid (HW1.out.1.trans (hx.mono HW1.out.1.size))
          clear hx
          go_wp2_with fail
          go_ret
          exact ⟨by rw [HE.out]; rfl, HX.out⟩
        | false =>
          rw [hsv] at HCS hHE
          have HE := Lib.hid (show refP l ty ⟨via, rel, odd⟩ = if (r.allow.all fun a => Lt.has l a.ty rel) = true then 0 else 13 by rw [hHE]; rfl)
          clear hsv hHE
          go_wp2_with fail
          refine HCS.out.mono ?_
          rintro e Z2 ⟨rfl, hx⟩
          have hzs := hx.size
          have HW2 := Lib.hid (show Below w.heap.size w Z2 ∧ Z2.heap[w.heap.size]? = _ ∧ Z2.heap[w.heap.size + 1]? = _ ∧ Z2.heap[y.heap.size]? = _ from ⟨HW1.out.1.trans (hx.mono HW1.out.1.size), (hx.block _ (by have := HSZ1.out; omega)).trans HW1.out.2.1, (hx.block _ (by have := HSZ1.out; omega)).trans HW1.out.2.2.1, (hx.block _ HSZ1.out.2).trans HW1.out.2.2.2⟩)
          have HLA2 := Lib.hid (HLA1.out.on hx fun _ _ h => h)
          clear b0 b1 b2 d0 d1 d2 k0 k1 k2 k3 k4 k5 k6 k7 k8
          obtain ⟨k0, k1, k2, k3, k4, k5, k6, k7, k8⟩ := box9 HW2.out.2.2.2
          have HSZ2 := Lib.hid (show w.heap.size + 3 ≤ y.heap.size ∧ y.heap.size < Z2.heap.size from ⟨HSZ1.out.1, by have := HSZ1.out; omega⟩)
          have hbig : r.allow.length ≤ 9223372036854775807 := HLA2.out.big
          clear hx hzs HCS HLA1 HW1 HSZ1
          go_wp2_with fail
          clear k0 k1 k2 k3 k4 k5 k6 k7 k8
          go_loopw [54] (fun i wr => ∃ j : Nat, j ≤ r.allow.length ∧ i = .int .i64 j ∧ Hid (((r.allow.take j).all fun a => Lt.has l a.ty rel) = true ∧ Below Z2.heap.size Z2 wr)) (fun i _ => r.allow.length - (intOf i).toNat)
          case atStart => exact ⟨0, by omega, rfl, Lib.hid ⟨rfl, Below.refl _ _⟩⟩
          case round =>
            obtain ⟨j, hj, rfl, HJ⟩ := hrel
            by_cases hlt : j < r.allow.length
            · have hla := HLA2.out.on HJ.out.2 fun _ _ h => h
              obtain ⟨g2, q2, hix2, hg2, c0, c1, c2⟩ := al_at hla vc hlt
              have hwa := HWD.out.2.2.2.2.1 r.allow[j] (List.getElem_mem hlt)
              have htk := all_take (p := fun a => Lt.has l a.ty rel) hlt
              rw [HJ.out.1, Bool.true_and] at htk
              have hnone : Lt.has l r.allow[j].ty rel = false → (r.allow.all fun a => Lt.has l a.ty rel) = false := fun h => List.all_eq_false.2 ⟨_, List.getElem_mem hlt, by rw [h]; decide⟩
              generalize r.allow[j] = a at *
              have al := Tr.fresh_one wr (.cells #[.string a.ty, .string a.rel, .bool a.wild] tAllow)
              have hkA := heap_alloc_new wr (.cells #[.string a.ty, .string a.rel, .bool a.wild] tAllow)
              have hb2 := HJ.out.2.trans (al.mono HJ.out.2.size)
              obtain ⟨b0, b1, b2⟩ := box3 ((hb2.block _ (by have := HSZ2.out; omega)).trans HW2.out.2.1)
              obtain ⟨d0, d1, d2⟩ := box3 ((hb2.block _ (by have := HSZ2.out; omega)).trans HW2.out.2.2.1)
              obtain ⟨a0, a1, a2⟩ := box3 hkA
              have HB := Lib.hid (show Below w.heap.size w (wr.alloc (.cells #[.string a.ty, .string a.rel, .bool a.wild] tAllow)) ∧ Below Z2.heap.size Z2 (wr.alloc (.cells #[.string a.ty, .string a.rel, .bool a.wild] tAllow)) from ⟨HW2.out.1.trans (hb2.mono HW2.out.1.size), hb2⟩)
              have HC := Lib.hid (need_any (cap := cap) (m := (relsL l).length) _ (HLay.out.below HB.out.1) a.ty rel (Nat.le_trans hwa.1 HM.out.1) (Nat.le_trans HS.out.2.2 HM.out.1))
              clear hla hg2 hwa al hkA hb2
              cases hh : Lt.has l a.ty rel with
              | false =>
                rw [hh] at HC
                have HN := Lib.hid (hnone hh)
                clear hh hnone htk
                go_wp2_with fail
                refine HC.out.mono ?_
                rintro e x ⟨rfl, hx⟩
                have HX := Lib.hid (HB.out.1.trans (hx.mono HB.out.1.size))
                clear hx
                go_wp2_with fail
                go_ret
                exact ⟨by rw [HE.out, HN.out]; rfl, HX.out⟩
              | true =>
                rw [hh] at HC
                have HN := Lib.hid (htk.trans hh)
                clear hh hnone htk
                go_wp2_with fail
                refine HC.out.mono ?_
                rintro e x ⟨rfl, hx⟩
                have HX := Lib.hid (HB.out.2.trans (hx.mono HB.out.2.size))
                clear hx
                go_wp2_with fail
                go_roundw
                case rel => exact ⟨j + 1, by omega, by go_num, Lib.hid ⟨HN.out, HX.out⟩⟩
                case measure => simp [intOf]; omega
            · have hj' : j = r.allow.length := by omega
              subst hj'
              have ha := HJ.out.1
              rw [List.take_length] at ha
              have HX := Lib.hid (show refP l ty ⟨via, rel, odd⟩ = 0 ∧ Below w.heap.size w wr from ⟨by rw [HE.out, if_pos ha], HW2.out.1.trans (HJ.out.2.mono HW2.out.1.size)⟩)
              clear ha HJ
              go_wp2_with fail
              go_ret
              exact ⟨by rw [HX.out.1]; rfl, HX.out.2⟩
end
end Ly
end Go.Proofs.YtopncohhagebbaaGreatDoor

namespace Go.Proofs.YtopncohhagebbaaGreatDoor
open Go.RowKit
namespace Ly
open Tr (Nd IsExpr node4 none0 size good errOf refs direct RowAt own_open own_slice own_below own_turn IsElem Rf walk_rows isThis direct_any refs_any RefsAt cellsR)
open Gr (Al Rl Ty IsAl IsRl IsTy IsCf Lies cellsV al_at ty_at new_cells alV box1 box2 two_boxes)
open Cn (box3)
open Knot (Turns NewRow)
open Lt (It Re relsL relsT place Stp same same_iff lost has_place any_take refP relP allowedP twice twice_dup first first_take dup dup_snoc StrRow sameA)

theorem elemRf : Tryz.prog.underlying 171 = some (.slice (Tryz.prog.elem 171)) := by kernel_rfl
theorem sizeRf : ∀ w, (sizeOf (Tryz.prog.elem 171)).run Tryz.prog w = .ok 3 w := fun w => by kernel_rfl
theorem cellsR_at : ∀ (l : List Rf) {j : Nat} (h : j < l.length), (cellsR l)[j * 3]? = some (.string l[j].via) ∧ (cellsR l)[j * 3 + 1]? = some (.string l[j].rel) ∧ (cellsR l)[j * 3 + 2]? = some (.bool l[j].odd)
  | a :: l, 0, _ => ⟨rfl, rfl, rfl⟩
  | a :: l, j + 1, h => by
    have hj : j < l.length := by simpa using h
    obtain ⟨h0, h1, h2⟩ := cellsR_at l hj
    have e : cellsR (a :: l) = [.string a.via, .string a.rel, .bool a.odd] ++ cellsR l := List.flatMap_cons
    have e3 : ([.string a.via, .string a.rel, .bool a.odd] : List Value).length = 3 := rfl
    refine ⟨?_, ?_, ?_⟩
    · rw [e, List.getElem?_append_right (by omega), e3, show (j + 1) * 3 - 3 = j * 3 by omega]; exact h0
    · rw [e, List.getElem?_append_right (by omega), e3, show (j + 1) * 3 + 1 - 3 = j * 3 + 1 by omega]; exact h1
    · rw [e, List.getElem?_append_right (by omega), e3, show (j + 1) * 3 + 2 - 3 = j * 3 + 2 by omega]; exact h2
theorem rf_at {B : Nat} {x : World} {v : Value} {l : List Rf} (h : RefsAt B x v l) {j : Nat} (hj : j < l.length) :
    ∃ g q, (∀ W, (Instr.indexAt 171 v (.int .i64 (j : Int))).run Tryz.prog W = .ok (.pointer (some ⟨g, q, none⟩)) W) ∧ B ≤ g ∧ g < x.heap.size ∧
      x.cell? ⟨g, q, none⟩ = some (.string l[j].via) ∧ x.cell? ⟨g, q + 1, none⟩ = some (.string l[j].rel) ∧ x.cell? ⟨g, q + 2, none⟩ = some (.bool l[j].odd) := by
  obtain ⟨n, hn⟩ : ∃ n, l.length = n + 1 := ⟨l.length - 1, by omega⟩
  have h' : x.ownsRow B tRf 3 v l.length (cellsR l) := h
  rw [hn] at h'
  obtain ⟨g, rc, rfl, hB, hg, -, hc⟩ := own_open h'
  obtain ⟨c0, c1, c2⟩ := cellsR_at l hj
  refine ⟨g, j * 3, fun W => ?_, hB, hg, hc _ _ c0, hc _ _ c1, hc _ _ c2⟩
  rw [run_indexAt_slice W _ _ _ _ _ _ elemRf, if_pos ⟨by omega, by omega⟩, sizeRf]
  have e : ((j : Int)).toNat = j := by omega
  simp only [Result.andThen_ok, e, Addr.add_lit, Nat.zero_add]
theorem refs_big {B : Nat} {x : World} {v : Value} {l : List Rf} (h : RefsAt B x v l) : l.length ≤ 9223372036854775807 := by
  have h' : x.ownsRow B tRf 3 v l.length (cellsR l) := h
  rcases h'.2 with ⟨-, h0⟩ | ⟨g, cap', cur, hv, hb, -, h1, h2, -⟩
  · omega
  · unfold maxLen at h2; omega
def namesT (t : Ty) (i : Nat) : List ByteArray := (t.rels.take i).map (·.name)
theorem namesT_more (t : Ty) {i : Nat} (h : i < t.rels.length) : namesT t (i + 1) = namesT t i ++ [t.rels[i].name] := by
  rw [namesT, List.take_succ_eq_append_getElem h, List.map_append]
  rfl
theorem namesT_len (t : Ty) (i : Nat) : (namesT t i).length ≤ i := by
  rw [namesT, List.length_map, List.length_take]
  omega
theorem any_names (t : Ty) (i : Nat) (s : ByteArray) : ((namesT t i).any fun y => same y s) = (t.rels.take i).any fun x => same x.name s := by
  rw [namesT, List.any_map]
  rfl
def tyErr (t : Ty) (ns : List ByteArray) : Int := if 8 < t.rels.length then 3 else if dup same ns then 14 else 0
section
variable {l : List Ty} {ao ro : Option Addr} {cap rc b : Nat}
set_option maxHeartbeats 2000000 in
set_option maxRecDepth 100000 in
theorem typeFault_any (B : Nat) (t : Ty) (ns : List ByteArray) (ro : Option Addr) (rc : Nat) (nv : Value) (w : World) (h : StrRow B w nv ns) (hs : ∀ s ∈ ns, s.size ≤ 16) (hn : ns.length ≤ 100000) (hbig : t.rels.length ≤ 9223372036854775807) :
    Calls Tryz.prog 62 #[.agg #[.string t.name, .slice ro t.rels.length rc], nv] w fun e x => e = .returned (.int .i64 (tyErr t ns)) ∧ Below w.heap.size w x := by
  have al := Tr.fresh_one w (.cells #[.string t.name, .slice ro t.rels.length rc] 40)
  have hk := heap_alloc_new w (.cells #[.string t.name, .slice ro t.rels.length rc] 40)
  obtain ⟨a0, a1⟩ := box2 hk
  have HC := Lib.hid (twiceS_any B ns nv _ (Tr.own_below h al) (fun s hm => Nat.le_trans (hs s hm) (by decide)) hn)
  have HB := Lib.hid al
  clear h hs hk al
  by_cases h8 : 8 < t.rels.length
  · have h8' : decide ((8 : Int) < (t.rels.length : Int)) = true := by rw [decide_eq_true_eq]; omega
    have HE := Lib.hid (show tyErr t ns = 3 from if_pos h8)
    clear h8
    go_enter Tryz.func62, Tryz.ntmps62
    go_wp2_with fail
    go_ret
    exact ⟨by rw [HE.out]; rfl, HB.out⟩
  · have h8' : decide ((8 : Int) < (t.rels.length : Int)) = false := by rw [decide_eq_false_iff_not]; omega
    cases hd : dup same ns with
    | true =>
      rw [hd] at HC
      have HE := Lib.hid (show tyErr t ns = 14 by rw [tyErr, if_neg h8, hd]; rfl)
      clear hd
      go_enter Tryz.func62, Tryz.ntmps62
      go_wp2_with fail
      refine HC.out.mono ?_
      rintro e x ⟨rfl, hx⟩
      have HX := Lib.hid (HB.out.trans (hx.mono HB.out.size))
      clear hx
      go_wp2_with fail
      go_ret
      exact ⟨by rw [HE.out]; rfl, HX.out⟩
    | false =>
      rw [hd] at HC
      have HE := Lib.hid (show tyErr t ns = 0 by rw [tyErr, if_neg h8, hd]; rfl)
      clear hd
      go_enter Tryz.func62, Tryz.ntmps62
      go_wp2_with fail
      refine HC.out.mono ?_
      rintro e x ⟨rfl, hx⟩
      have HX := Lib.hid (HB.out.trans (hx.mono HB.out.size))
      clear hx
      go_wp2_with fail
      go_ret
      exact ⟨by rw [HE.out]; rfl, HX.out⟩
set_option maxHeartbeats 16000000 in
set_option maxRecDepth 100000 in
theorem relFault_any (hw : Wd l) (w : World) (h : LayAt w l ao ro rc b) (t : Ty) (ht : t ∈ l) (i : Nat) (hi : i < t.rels.length) (B : Nat) (nv : Value) (hn : StrRow B w nv (namesT t (i + 1))) (hni : i ≤ 1000) (hnd : dup same (namesT t i) = false)
    (vo no : Option Addr) (vc nc : Nat) (ev : Value) (us : List Value) (hla : Lies IsAl 3 w vo t.rels[i].allow us) (hex : IsExpr 0 w t.rels[i].expr ev) :
    Calls Tryz.prog 105 #[layV ao l.length cap ro (relsL l).length rc b, reV t.name t.rels[i].name t.rels[i].name (.slice vo t.rels[i].allow.length vc) t.rels[i].expr.kind t.rels[i].expr.ta t.rels[i].expr.tb (.slice no t.rels[i].expr.kids.length nc) ev, nv] w
      fun e y => e = .returned (.int .i64 (relP l t i t.rels[i])) ∧ Below w.heap.size w y := by
  have hwd := hw.expr t ht _ (List.getElem_mem hi)
  have hal := hw.allow t ht _ (List.getElem_mem hi)
  have hty := hw.ty t ht
  have hsh : ∀ s ∈ namesT t (i + 1), s.size ≤ maxLen := fun s hs => by
    obtain ⟨r, hr, rfl⟩ := List.mem_map.1 hs
    exact Nat.le_trans (hw.rel t ht r (List.mem_of_mem_take hr)).1 (by decide)
  have hdn : dup same (namesT t (i + 1)) = (t.rels.take i).any fun x => same x.name t.rels[i].name := by
    rw [namesT_more t hi, dup_snoc, hnd, Bool.false_or, any_names]
  have hnl : (namesT t (i + 1)).length ≤ 100000 := Nat.le_trans (namesT_len t (i + 1)) (by omega)
  have hbig : t.rels[i].allow.length ≤ 9223372036854775807 := hla.big
  obtain ⟨nao, ncap, rfl⟩ := own_slice (show w.ownsRow B 9 1 nv _ _ from hn)
  generalize hr : t.rels[i] = r at *
  have hP : relP l t i r = relP l t i r := rfl
  conv at hP => rhs; unfold relP
  rw [← hdn, twice_dup] at hP
  obtain ⟨q1, q2, q3, q4⟩ := two_boxes w #[.slice ao l.length cap, .slice ro (relsL l).length rc, .map (some b)] (reC t.name r.name r.name (.slice vo r.allow.length vc) r.expr.kind r.expr.ta r.expr.tb (.slice no r.expr.kids.length nc) ev) tLay tRe
  have H0 := Lib.hid (And.intro q1 (And.intro q2 (And.intro q3 q4)))
  have HLay := Lib.hid h
  have HM := Lib.hid (And.intro hw (And.intro hty (And.intro hwd hal)))
  have HNm := Lib.hid (And.intro hn hsh)
  have HLA := Lib.hid (And.intro hla hex)
  have HP := Lib.hid hP
  clear hw h hn hsh hla hex hwd hal hty q1 q2 q3 q4 hP hnd hdn hr
  go_enter Tryz.func105, Tryz.ntmps105
  go_upto_region 1 with fail
  generalize (w.alloc (.cells #[.slice ao l.length cap, .slice ro (relsL l).length rc, .map (some b)] tLay)).alloc (.cells (reC t.name r.name r.name (.slice vo r.allow.length vc) r.expr.kind r.expr.ta r.expr.tb (.slice no r.expr.kids.length nc) ev) tRe) = X at *
  obtain ⟨k0, k1, k2, k3, k4, k5, k6, k7, k8⟩ := box9 H0.out.2.2.1
  have HD := Lib.hid (fun x (hx : Below w.heap.size w x) want => direct_any r.expr ev want x (Nat.le_trans HM.out.2.2.1.2.2 (by decide)) HM.out.2.2.1.1 (HLA.out.2.below hx))
  have HSZ := Lib.hid H0.out.2.2.2
  go_upto_region 2 with fail
  go_cut [8] (fun s8 wx => s8 = .bool (direct r.expr false false || direct r.expr true false) ∧ Below X.heap.size X wx)
  case first =>
    have HD0 := Lib.hid (HD.out X H0.out.1 false)
    cases hd0 : direct r.expr false false with
    | true =>
      rw [hd0] at HD0
      have HH0 := Lib.hid hd0
      clear hd0
      go_wp2_with fail
      refine HD0.out.mono ?_
      rintro e x ⟨rfl, hx⟩
      have HX := Lib.hid hx
      clear hx
      go_wp2_with fail
      go_meet
      case rel => exact ⟨by simp [HH0.out], HX.out⟩
    | false =>
      rw [hd0] at HD0
      have HH0 := Lib.hid hd0
      clear hd0
      go_wp2_with fail
      refine HD0.out.mono ?_
      rintro e x ⟨rfl, hx⟩
      have HX := Lib.hid hx
      have HD1 := Lib.hid (HD.out x (H0.out.1.trans (hx.mono H0.out.1.size)) true)
      have hxs := hx.size
      clear k0 k1 k2 k3 k4 k5 k6 k7 k8
      obtain ⟨k0, k1, k2, k3, k4, k5, k6, k7, k8⟩ := box9 ((hx.block _ (Array.getElem?_eq_some_iff.1 H0.out.2.2.1).1).trans H0.out.2.2.1)
      clear hx hxs
      go_wp2_with fail
      refine HD1.out.mono ?_
      rintro e y ⟨rfl, hy⟩
      have HY := Lib.hid (HX.out.trans (hy.mono HX.out.size))
      clear hy
      go_wp2_with fail
      go_meet
      case rel => exact ⟨by simp [HH0.out], HY.out⟩
  case rest =>
    obtain ⟨rfl, hwx⟩ := hcut
    rename World => wx
    generalize hD : (direct r.expr false false || direct r.expr true false) = D at *
    have hbw := H0.out.1.trans (hwx.mono H0.out.1.size)
    have H1 := Lib.hid (show Below w.heap.size w wx ∧ wx.heap[w.heap.size]? = _ ∧ wx.heap[w.heap.size + 1]? = _ from ⟨hbw, (hwx.block _ (by have := HSZ.out; omega)).trans H0.out.2.1, (hwx.block _ (by have := HSZ.out; omega)).trans H0.out.2.2.1⟩)
    have hws := hwx.size
    have HSW := Lib.hid (show w.heap.size + 2 ≤ wx.heap.size from by have := HSZ.out; omega)
    have HPP := Lib.hid HP.out
    clear hwx hbw hws HD HP hD k0 k1 k2 k3 k4 k5 k6 k7 k8
    by_cases h6 : 6 < r.allow.length
    · have h6' : decide ((6 : Int) < (r.allow.length : Int)) = true := by rw [decide_eq_true_eq]; omega
      have HE := Lib.hid (show relP l t i r = 3 by rw [HPP.out, if_pos h6])
      clear h6
      go_wp2_with fail
      go_ret
      exact ⟨by rw [HE.out]; rfl, H1.out.1⟩
    have h6' : decide ((6 : Int) < (r.allow.length : Int)) = false := by rw [decide_eq_false_iff_not]; omega
    have HP1 := Lib.hid (HPP.out.trans (if_neg h6))
    have hal6 : r.allow.length ≤ 100000 := by omega
    have HC1 := Lib.hid (twiceS_any B _ _ wx (Tr.own_below HNm.out.1 H1.out.1) HNm.out.2 hnl)
    clear h6 HPP
    cases hd1 : dup same (namesT t (i + 1)) with
    | true =>
      rw [hd1] at HC1
      have HE := Lib.hid (show relP l t i r = 14 by rw [HP1.out, if_pos hd1])
      clear hd1
      go_wp2_with fail
      refine HC1.out.mono ?_
      rintro e x ⟨rfl, hx⟩
      have HX := Lib.hid (H1.out.1.trans (hx.mono H1.out.1.size))
      clear hx
      go_wp2_with fail
      go_ret
      exact ⟨by rw [HE.out]; rfl, HX.out⟩
    | false =>
    rw [hd1] at HC1
    have HP2 := Lib.hid (HP1.out.trans (if_neg (by rw [hd1]; decide)))
    clear hd1 HP1
    go_wp2_with fail
    refine HC1.out.mono ?_
    rintro e x2 ⟨rfl, hx⟩
    have H2 := Lib.hid (show Below w.heap.size w x2 ∧ x2.heap[w.heap.size]? = _ ∧ x2.heap[w.heap.size + 1]? = _ from ⟨H1.out.1.trans (hx.mono H1.out.1.size), (hx.block _ (by have := HSW.out; omega)).trans H1.out.2.1, (hx.block _ (by have := HSW.out; omega)).trans H1.out.2.2⟩)
    have HS2 := Lib.hid (show w.heap.size + 2 ≤ x2.heap.size from Nat.le_trans HSW.out hx.size)
    have HC2 := Lib.hid (twiceA_any r.allow vo vc us x2 (HLA.out.1.on H2.out.1 fun _ _ h => h) HM.out.2.2.2 hal6)
    clear hx HC1 H1 HSW
    cases hd2 : dup sameA r.allow with
    | true =>
      rw [hd2] at HC2
      have HE := Lib.hid (show relP l t i r = 14 by rw [HP2.out, if_pos hd2])
      clear hd2
      go_wp2_with fail
      refine HC2.out.mono ?_
      rintro e x ⟨rfl, hx⟩
      have HX := Lib.hid (H2.out.1.trans (hx.mono H2.out.1.size))
      clear hx
      go_wp2_with fail
      go_ret
      exact ⟨by rw [HE.out]; rfl, HX.out⟩
    | false =>
    rw [hd2] at HC2
    have HP3 := Lib.hid (HP2.out.trans (if_neg (by rw [hd2]; decide)))
    clear hd2 HP2
    go_wp2_with fail
    refine HC2.out.mono ?_
    rintro e x3 ⟨rfl, hx⟩
    have H3 := Lib.hid (show Below w.heap.size w x3 ∧ x3.heap[w.heap.size]? = _ ∧ x3.heap[w.heap.size + 1]? = _ from ⟨H2.out.1.trans (hx.mono H2.out.1.size), (hx.block _ (by have := HS2.out; omega)).trans H2.out.2.1, (hx.block _ (by have := HS2.out; omega)).trans H2.out.2.2⟩)
    have HS3 := Lib.hid (show w.heap.size + 2 ≤ x3.heap.size from Nat.le_trans HS2.out hx.size)
    clear hx HC2 H2 HS2
    have hpos : decide ((0 : Int) < (r.allow.length : Int)) = decide (0 < r.allow.length) := by simp
    cases hq : (D != decide (0 < r.allow.length)) with
    | true =>
      have HE := Lib.hid (show relP l t i r = 15 by rw [HP3.out, if_pos hq])
      have hq2 : (!D == decide (0 < r.allow.length)) = true := by rw [← hq]; cases D <;> cases decide (0 < r.allow.length) <;> rfl
      clear HP3
      go_wp2_with fail
      go_ret
      exact ⟨by rw [HE.out]; rfl, H3.out.1⟩
    | false =>
    have HP4 := Lib.hid (HP3.out.trans (if_neg (by rw [hq]; decide)))
    have hq2 : (!D == decide (0 < r.allow.length)) = false := by rw [← hq]; cases D <;> cases decide (0 < r.allow.length) <;> rfl
    clear HP3
    obtain ⟨b0, b1, b2⟩ := box3 H3.out.2.1
    have HL3 := Lib.hid (HLay.out.below H3.out.1)
    have HC4 := Lib.hid (contains_lacks (layV ao l.length cap ro (relsL l).length rc b) r.allow vo vc us x3 (HLA.out.1.on H3.out.1 fun _ _ h => h) (lost l) fun j hj x hx => lacks_any x (HL3.out.below hx) r.allow[j] (HM.out.2.2.2 _ (List.getElem_mem hj)).1 (HM.out.2.2.2 _ (List.getElem_mem hj)).2)
    cases hd4 : r.allow.any (lost l) with
    | true =>
      rw [hd4] at HC4
      have HE := Lib.hid (show relP l t i r = 13 by rw [HP4.out, allowedP, hd4, if_pos rfl]; rfl)
      clear hd4
      go_wp2_with fail
      refine HC4.out.mono ?_
      rintro e x ⟨rfl, hx⟩
      have HX := Lib.hid (H3.out.1.trans (hx.mono H3.out.1.size))
      clear hx
      go_wp2_with fail
      go_ret
      exact ⟨by rw [HE.out]; rfl, HX.out⟩
    | false =>
    rw [hd4] at HC4
    have HP5 := Lib.hid (show relP l t i r = first (refP l t.name) (refs r.expr false) by rw [HP4.out, allowedP, hd4, if_neg (by decide)])
    clear hd4 HP4
    go_wp2_with fail
    refine HC4.out.mono ?_
    rintro e x4 ⟨rfl, hx⟩
    have H4 := Lib.hid (show Below w.heap.size w x4 ∧ x4.heap[w.heap.size]? = _ ∧ x4.heap[w.heap.size + 1]? = _ from ⟨H3.out.1.trans (hx.mono H3.out.1.size), (hx.block _ (by have := HS3.out; omega)).trans H3.out.2.1, (hx.block _ (by have := HS3.out; omega)).trans H3.out.2.2⟩)
    have HS4 := Lib.hid (show w.heap.size + 2 ≤ x4.heap.size from Nat.le_trans HS3.out hx.size)
    clear hx HC4 H3 HS3 HL3 b0 b1 b2 hq hq2 hpos h6'
    obtain ⟨k0, k1, k2, k3, k4, k5, k6, k7, k8⟩ := box9 H4.out.2.2
    have HC5 := Lib.hid (refs_any r.expr ev x4 (Nat.le_trans HM.out.2.2.1.2.2 (by decide)) HM.out.2.2.1.1 (HLA.out.2.below H4.out.1))
    go_wp2_with fail
    refine HC5.out.mono ?_
    rintro e x5 ⟨rv, rfl, hrow, hx⟩
    have hshort := refs_short r.expr false HM.out.2.2.1.1
    generalize refs r.expr false = rl at *
    obtain ⟨ra, rcp, rfl⟩ := own_slice (show x5.ownsRow x4.heap.size tRf 3 rv _ _ from hrow)
    have hrl : rl.length ≤ 9223372036854775807 := refs_big hrow
    have H5 := Lib.hid (show Below w.heap.size w x5 ∧ x5.heap[w.heap.size]? = _ ∧ x5.heap[w.heap.size + 1]? = _ ∧ RefsAt x4.heap.size x5 _ rl from ⟨H4.out.1.trans (hx.mono H4.out.1.size), (hx.block _ (by have := HS4.out; omega)).trans H4.out.2.1, (hx.block _ (by have := HS4.out; omega)).trans H4.out.2.2, hrow⟩)
    have HS5 := Lib.hid (show w.heap.size + 2 ≤ x5.heap.size from Nat.le_trans HS4.out hx.size)
    have HSH := Lib.hid hshort
    clear hx HC5 H4 HS4 hrow hshort k0 k1 k2 k3 k4 k5 k6 k7 k8
    go_wp2_with fail
    go_loopw [49] (fun i wr => ∃ j : Nat, j ≤ rl.length ∧ i = .int .i64 j ∧ Hid (first (refP l t.name) (rl.take j) = 0 ∧ Below x5.heap.size x5 wr)) (fun i _ => rl.length - (intOf i).toNat)
    case atStart => exact ⟨0, by omega, rfl, Lib.hid ⟨rfl, Below.refl _ _⟩⟩
    case round =>
      obtain ⟨j, hj, rfl, HJ⟩ := hrel
      by_cases hlt : j < rl.length
      · obtain ⟨g, q, hix, -, hg, c0, c1, c2⟩ := rf_at (show RefsAt x4.heap.size wr _ rl from Tr.own_below H5.out.2.2.2 HJ.out.2) hlt
        have hft := first_take (refP l t.name) hlt HJ.out.1
        have hsx := HSH.out rl[j] (List.getElem_mem hlt)
        generalize rl[j] = x at *
        have al := Tr.fresh_one wr (.cells #[.string x.via, .string x.rel, .bool x.odd] tRf)
        have hkR := heap_alloc_new wr (.cells #[.string x.via, .string x.rel, .bool x.odd] tRf)
        have hb2 := HJ.out.2.trans (al.mono HJ.out.2.size)
        have h0' := (hb2.block _ (by have := HS5.out; omega)).trans H5.out.2.1
        have h1' := (hb2.block _ (by have := HS5.out; omega)).trans H5.out.2.2.1
        obtain ⟨b0, b1, b2⟩ := box3 h0'
        obtain ⟨k0, k1, k2, k3, k4, k5, k6, k7, k8⟩ := box9 h1'
        obtain ⟨a0, a1, a2⟩ := box3 hkR
        have HB := Lib.hid (show Below w.heap.size w (wr.alloc (.cells #[.string x.via, .string x.rel, .bool x.odd] tRf)) ∧ Below x5.heap.size x5 (wr.alloc (.cells #[.string x.via, .string x.rel, .bool x.odd] tRf)) from ⟨H5.out.1.trans (hb2.mono H5.out.1.size), hb2⟩)
        have HC := Lib.hid (refFault_any (cap := cap) HM.out.1 _ (HLay.out.below HB.out.1) t.name x HM.out.2.1 hsx)
        have HF := Lib.hid hft
        clear hg al hkR hb2 h0' h1' hft hsx
        by_cases hz : refP l t.name x = 0
        · rw [hz] at HC
          have HN := Lib.hid (HF.out.2 hz)
          clear hz
          go_wp2_with fail
          refine HC.out.mono ?_
          rintro e y ⟨rfl, hy⟩
          have HX := Lib.hid (HB.out.2.trans (hy.mono HB.out.2.size))
          clear hy
          go_wp2_with fail
          go_roundw
          case rel => exact ⟨j + 1, by omega, by go_num, Lib.hid ⟨HN.out, HX.out⟩⟩
          case measure => simp [intOf]; omega
        · have HN := Lib.hid (HF.out.1 hz)
          have hne : (refP l t.name x != 0) = true := by simpa using hz
          generalize refP l t.name x = z at *
          clear hz
          go_wp2_with fail
          refine HC.out.mono ?_
          rintro e y ⟨rfl, hy⟩
          have HX := Lib.hid (HB.out.1.trans (hy.mono HB.out.1.size))
          clear hy
          go_wp2_with fail
          go_ret
          exact ⟨by rw [HP5.out, HN.out]; rfl, HX.out⟩
      · have hj' : j = rl.length := by omega
        subst hj'
        have ha := HJ.out.1
        rw [List.take_length] at ha
        have HX := Lib.hid (show relP l t i r = 0 ∧ Below w.heap.size w wr from ⟨HP5.out.trans ha, H5.out.1.trans (HJ.out.2.mono H5.out.1.size)⟩)
        clear ha HJ
        go_wp2_with fail
        go_ret
        exact ⟨by rw [HX.out.1]; rfl, HX.out.2⟩
end
end Ly
end Go.Proofs.YtopncohhagebbaaGreatDoor

namespace Go.Proofs.YtopncohhagebbaaGreatDoor
open Go.RowKit
namespace Ly
open Tr (Nd IsExpr node4 none0 size good errOf refs direct RowAt own_open own_slice own_below own_turn IsElem Rf walk_rows)
open Gr (Al Rl Ty IsAl IsRl IsTy IsCf Lies cellsV al_at ty_at new_cells alV box1 box2 two_boxes)
open Cn (box3)
open Knot (Turns NewRow)
open Lt (It Re relsL relsT place Stp same same_iff relP relsP relsP_at typeP typesW typesW_at namesP dup dup_snoc StrRow strs_elem relP_zero acts_two)

structure Sub (w : World) (ao : Option Addr) (cap : Nat) (L : List Re) : Prop where
  lies : ∃ vs, Lies IsRe 9 w ao L vs
  room : L.length ≤ cap
theorem Sub.below {w x : World} {ao : Option Addr} {cap : Nat} {L : List Re} (h : Sub w ao cap L) (hb : Below w.heap.size w x) : Sub x ao cap L := by
  obtain ⟨⟨vs, h1⟩, h2⟩ := h
  exact ⟨⟨vs, h1.on hb fun _ _ h => h.below hb⟩, h2⟩
theorem Sub.parts {w : World} {ao : Option Addr} {cap : Nat} {M C : List Re} (h : Sub w ao cap (M ++ C)) :
    ∃ a1 a2 c2, (∀ W, (Instr.slice tRes (.slice ao (M ++ C).length cap) none (some (.int .i64 (M.length : Int))) none).run Tryz.prog W = .ok (.slice a1 M.length cap) W) ∧
      (∀ W, (Instr.slice tRes (.slice ao (M ++ C).length cap) (some (.int .i64 (M.length : Int))) none none).run Tryz.prog W = .ok (.slice a2 C.length c2) W) ∧ Sub w a1 cap M ∧ Sub w a2 c2 C := by
  obtain ⟨⟨vs, hl⟩, hr⟩ := h
  rw [List.length_append] at hr
  have hlen := hl.len
  rw [List.length_append] at hlen
  have hvs : ∀ (i : Nat) (a : Re) (u : Value), (M ++ C)[i]? = some a → vs[i]? = some u → IsRe w a u := hl.is
  refine ⟨if cap = 0 then ao else ao.map (·.add (0 * 9)), if cap = M.length then ao else ao.map (·.add (M.length * 9)), cap - M.length, fun W => ?_, fun W => ?_, ⟨⟨vs.take M.length, ?_, ?_, ?_, ?_⟩, by omega⟩, ⟨⟨vs.drop M.length, ?_, ?_, ?_, ?_⟩, by omega⟩⟩
  · rw [run_slice_h (ht := elemRe) (h0 := by omega) (h2 := by omega), sizeRe]
    simp [sliced]
  · rw [run_slice_l (ht := elemRe) (h0 := by omega) (h1 := by rw [List.length_append]; omega), sizeRe]
    simp [sliced]
  · rw [List.length_take]; omega
  · have := hl.big; rw [List.length_append] at this; omega
  · intro hne
    have hpos := List.length_pos_iff.2 hne
    obtain ⟨g, o, rfl, hrow⟩ := hl.row (by simp [hne])
    refine ⟨g, o, by rw [if_neg (by omega)]; simp [Addr.add_lit], fun i v hv => hrow i v ?_⟩
    rw [List.getElem?_take] at hv
    split at hv
    · exact hv
    · cases hv
  · intro i a u hi hu
    rw [List.getElem?_take] at hu
    split at hu
    · rename_i hlt
      exact hvs i a u (by rw [List.getElem?_append_left hlt]; exact hi) hu
    · cases hu
  · rw [List.length_drop]; omega
  · have := hl.big; rw [List.length_append] at this; omega
  · intro hne
    have hpos := List.length_pos_iff.2 hne
    obtain ⟨g, o, rfl, hrow⟩ := hl.row (by simp [hne])
    refine ⟨g, o + M.length * 9, by rw [if_neg (by omega)]; simp [Addr.add_lit], fun i v hv => ?_⟩
    rw [List.getElem?_drop] at hv
    obtain ⟨h1, h2⟩ := hrow _ v hv
    refine ⟨h1, fun j u hu => ?_⟩
    have := h2 j u hu
    rwa [show o + M.length * 9 + i * 9 + j = o + (M.length + i) * 9 + j by rw [Nat.add_mul]; omega]
  · intro i a u hi hu
    rw [List.getElem?_drop] at hu
    refine hvs _ a u ?_ hu
    rw [List.getElem?_append_right (by omega), Nat.add_sub_cancel_left]
    exact hi
abbrev faultV (a : ByteArray × ByteArray × Int) : Value := .tuple #[.agg #[.string a.1, .string a.2.1], .int .i64 a.2.2]
theorem info_spot : (Tryz.prog.info? tSpot).map (·.size) = some 2 := by kernel_rfl
theorem spot_one (a b : ByteArray) : (#[Value.string a, .string b]).all (·.oneCell') = true := by
  refine Array.all_eq_true_iff_forall_mem.2 fun v hv => ?_
  simp at hv
  rcases hv with rfl | rfl <;> rfl
def set2 (y : World) (R : Nat) (a b : ByteArray) : World := (y.setCell ⟨R, 0, none⟩ (.string a)).setCell ⟨R, 1, none⟩ (.string b)
theorem set2_heap {y : World} {R : Nat} {a b a' b' : ByteArray} (h : y.heap[R]? = some (.cells #[.string a, .string b] tSpot (0, 0))) : (set2 y R a' b').heap[R]? = some (.cells #[.string a', .string b'] tSpot (0, 0)) :=
  Lib.heap_setCell_same (i := 1) (Lib.heap_setCell_same (i := 0) h _) _
theorem set2_turns (y : World) (R : Nat) (a b : ByteArray) : Turns (fun k => k = R) y (set2 y R a b) :=
  ((Turns.refl (fun k => k = R) y).setCell (p := ⟨R, 0, none⟩) rfl _).setCell (p := ⟨R, 1, none⟩) rfl _
theorem relsT_at (t : Ty) {j : Nat} (h : j < (relsT t).length) : (relsT t)[j] = ((t.name, (t.rels[j]'(by rw [relsT, List.length_map] at h; exact h)).name), t.rels[j]'(by rw [relsT, List.length_map] at h; exact h)) := by simp [relsT]
theorem relsT_len (t : Ty) : (relsT t).length = t.rels.length := List.length_map _
section
variable {l : List Ty} {ao ro : Option Addr} {cap rc b : Nat}
set_option maxHeartbeats 16000000 in
set_option maxRecDepth 100000 in
theorem relsFault_any (hw : Wd l) (w : World) (h : LayAt w l ao ro rc b) (t : Ty) (ht : t ∈ l) (hfew : t.rels.length ≤ 1000) (a1 : Option Addr) (c1 : Nat) (hs : Sub w a1 c1 (relsT t)) :
    Calls Tryz.prog 63 #[layV ao l.length cap ro (relsL l).length rc b, .slice a1 (relsT t).length c1] w fun e y => e = .returned (faultV (relsP l t 0 t.rels)) ∧ Below w.heap.size w y := by
  obtain ⟨⟨vs, hl⟩, -⟩ := hs
  obtain ⟨q1, q2, q3, q4⟩ := two_boxes w #[.slice ao l.length cap, .slice ro (relsL l).length rc, .map (some b)] #[.string ⟨#[]⟩, .string ⟨#[]⟩] tLay tSpot
  have H0 := Lib.hid (And.intro q1 (And.intro q2 (And.intro q3 q4)))
  have HA := Lib.hid (And.intro hw (And.intro h hl))
  have HLEN := Lib.hid (relsT_len t)
  clear hw h hl q1 q2 q3 q4
  go_enter Tryz.func63, Tryz.ntmps63
  go_upto_region 2 with fail
  generalize (w.alloc (.cells #[.slice ao l.length cap, .slice ro (relsL l).length rc, .map (some b)] tLay)).alloc (.cells #[.string ⟨#[]⟩, .string ⟨#[]⟩] tSpot) = X at *
  have hrl : (relsT t).length ≤ 9223372036854775807 := by have := HLEN.out; omega
  go_wp2_with fail
  go_loopw [6, 12] (fun fv i wr => ∃ j : Nat, j ≤ (relsT t).length ∧ i = .int .i64 j ∧ Hid (StrRow X.heap.size wr fv (namesT t j) ∧ Below X.heap.size X wr ∧ dup same (namesT t j) = false ∧ relsP l t 0 t.rels = relsP l t j (t.rels.drop j))) (fun _ i _ => (relsT t).length - (intOf i).toNat)
  case atStart => exact ⟨0, by omega, rfl, Lib.hid ⟨World.ownsRow_nil _ _ _ _, Below.refl _ _, rfl, rfl⟩⟩
  case round =>
    obtain ⟨j, hj, rfl, HJ⟩ := hrel
    obtain ⟨oo, oc, rfl⟩ := own_slice HJ.out.1
    have hsx := H0.out.2.2.2
    have hbw : Below w.heap.size w wr := H0.out.1.trans (HJ.out.2.1.mono (by omega))
    by_cases hlt : j < (relsT t).length
    · have hlt' : j < t.rels.length := by have := HLEN.out; omega
      obtain ⟨g, q, vo, vc, no, nc, ev, us, hix, hg, ⟨c0, c1', c2, c3, c4, c5, c6, c7, c8⟩, hla, hex⟩ := re_at HA.out.2.2 c1 hlt
      rw [relsT_at t hlt] at c0 c1' c2 c3 c4 c5 c6 c7 hla hex
      simp only at c0 c1' c2 c3 c4 c5 c6 c7 c8 hla hex
      replace c0 := (hbw.cell (p := ⟨g, q, none⟩) hg).trans c0
      replace c1' := (hbw.cell (p := ⟨g, q + 1, none⟩) hg).trans c1'
      replace c2 := (hbw.cell (p := ⟨g, q + 2, none⟩) hg).trans c2
      replace c3 := (hbw.cell (p := ⟨g, q + 3, none⟩) hg).trans c3
      replace c4 := (hbw.cell (p := ⟨g, q + 4, none⟩) hg).trans c4
      replace c5 := (hbw.cell (p := ⟨g, q + 5, none⟩) hg).trans c5
      replace c6 := (hbw.cell (p := ⟨g, q + 6, none⟩) hg).trans c6
      replace c7 := (hbw.cell (p := ⟨g, q + 7, none⟩) hg).trans c7
      replace c8 := (hbw.cell (p := ⟨g, q + 8, none⟩) hg).trans c8
      obtain ⟨et, eu, rfl⟩ := hex.iface
      have hmore := namesT_more t hlt'
      have hnl := namesT_len t j
      have hat := relsP_at (l := l) hlt'
      -- the box of the relation, then the name's
      have al1 := Tr.fresh_one wr (.cells (reC t.name t.rels[j].name t.rels[j].name (.slice vo t.rels[j].allow.length vc) t.rels[j].expr.kind t.rels[j].expr.ta t.rels[j].expr.tb (.slice no t.rels[j].expr.kids.length nc) (.iface et eu)) tRe)
      have hk1 := heap_alloc_new wr (.cells (reC t.name t.rels[j].name t.rels[j].name (.slice vo t.rels[j].allow.length vc) t.rels[j].expr.kind t.rels[j].expr.ta t.rels[j].expr.tb (.slice no t.rels[j].expr.kids.length nc) (.iface et eu)) tRe)
      have hcall := fun z (hz : Below w.heap.size w z) nv (hn : StrRow X.heap.size z nv (namesT t (j + 1))) => relFault_any (cap := cap) HA.out.1 z (HA.out.2.1.below hz) t ht j hlt' X.heap.size nv hn (by omega) HJ.out.2.2.1 vo no vc nc (.iface et eu) us (hla.on hz fun _ _ h => h) (hex.below hz)
      have hdn : relP l t j t.rels[j] = 0 → dup same (namesT t (j + 1)) = false := fun hz => by
        rw [hmore, dup_snoc, HJ.out.2.2.1, Bool.false_or, any_names]
        exact (relP_zero hz).2.1
      generalize t.rels[j] = r at *
      have HC := Lib.hid (And.intro hcall (And.intro hdn (And.intro hmore hat)))
      have hbx : Below X.heap.size X (wr.alloc (.cells (reC t.name r.name r.name (.slice vo r.allow.length vc) r.expr.kind r.expr.ta r.expr.tb (.slice no r.expr.kids.length nc) (.iface et eu)) tRe)) := HJ.out.2.1.trans (al1.mono HJ.out.2.1.size)
      have H1 := Lib.hid (And.intro hbx (And.intro hk1 (own_below HJ.out.1 al1)))
      have hs1 : (wr.alloc (.cells (reC t.name r.name r.name (.slice vo r.allow.length vc) r.expr.kind r.expr.ta r.expr.tb (.slice no r.expr.kids.length nc) (.iface et eu)) tRe)).heap.size = wr.heap.size + 1 := by simp
      have HS1 := Lib.hid (And.intro hs1 (And.intro HJ.out.2.1.size hsx))
      have HAL1 := Lib.hid al1
      clear hcall hdn hmore hat hbx hk1 hs1 al1 hla hex hg hbw hsx
      go_upto_region 5 with fail
      clear c0 c1' c2 c3 c4 c5 c6 c7 c8
      generalize wr.alloc (.cells (reC t.name r.name r.name (.slice vo r.allow.length vc) r.expr.kind r.expr.ta r.expr.tb (.slice no r.expr.kids.length nc) (.iface et eu)) tRe) = Y at *
      obtain ⟨k0, k1, k2, k3, k4, k5, k6, k7, k8⟩ := box9 H1.out.2.1
      have al := Tr.fresh_one Y (.cells #[.string r.name] 9)
      have HY := Lib.hid (And.intro (own_below H1.out.2.2 al) (And.intro (H1.out.1.trans (al.mono H1.out.1.size)) (And.intro ((al.block _ (by have := HS1.out; omega)).trans H1.out.2.1) (HAL1.out.trans (al.mono HAL1.out.size)))))
      have hy0 : X.heap.size ≤ (Y.alloc (.cells #[.string r.name] 9)).heap.size := HY.out.2.1.size
      obtain ⟨ti, tz, tb, TE, hT⟩ := strs_elem
      have HTE := Lib.hid (And.intro TE hT)
      clear al TE hT
      go_wp2_with (at_builtin; refine walk_rows HTE.out.1 rfl _ _ rfl rfl rfl HY.out.1 hy0 (m := 1) rfl (new_cells _ _ [.string r.name] (by simp)) (by intro u' hu'; simp at hu'; subst hu'; rfl) (by omega) (Nat.le_trans (Nat.mul_le_mul_left _ HTE.out.2) (by omega)) ?_)
      intro v2 z2 r2 gr2 n2
      have hz2 : Turns (fun k => (Value.slice oo (namesT t j).length oc).ownBlock = some k) _ z2 := Turns.of_grown gr2 fun k hk => hk
      have hrow2 : StrRow X.heap.size z2 v2 (namesT t (j + 1)) := by
        show World.ownsRow _ _ _ _ _ _ _
        rw [HC.out.2.2.1, List.length_append, List.map_append]
        exact r2
      have hbz : Below X.heap.size X z2 := HY.out.2.1.trans (hz2.below hy0 fun k hk => (World.ownsRow.lt HY.out.1 k hk).1)
      have hnot : ∀ k, (Value.slice oo (namesT t j).length oc).ownBlock = some k → k < wr.heap.size := fun k hk => (World.ownsRow.lt HJ.out.1 k hk).2
      have hkz := hz2.heap HY.out.2.2.1 (fun hk => by have := hnot _ hk; omega)
      have hlz := hz2.size
      have HZ := Lib.hid (show Below X.heap.size X z2 ∧ Below w.heap.size w z2 ∧ z2.heap[wr.heap.size]? = _ ∧ StrRow X.heap.size z2 v2 (namesT t (j + 1)) ∧ wr.heap.size < z2.heap.size from
        ⟨hbz, H0.out.1.trans (hbz.mono (by have := HS1.out; omega)), hkz, hrow2, (Array.getElem?_eq_some_iff.1 hkz).1⟩)
      have h0z := (HZ.out.1.block _ (by have := HS1.out; omega)).trans H0.out.2.1
      have HCz := Lib.hid (HC.out.1 z2 HZ.out.2.1 v2 hrow2)
      obtain ⟨vo2, vc2, rfl⟩ := own_slice (show z2.ownsRow X.heap.size 9 1 v2 _ _ from hrow2)
      clear r2 gr2 n2 hz2 hrow2 hbz hnot hkz hy0 hlz k0 k1 k2 k3 k4 k5 k6 k7 k8
      obtain ⟨b0, b1, b2⟩ := box3 h0z
      obtain ⟨k0, k1, k2, k3, k4, k5, k6, k7, k8⟩ := box9 HZ.out.2.2.1
      clear h0z
      by_cases hz : relP l t j r = 0
      · rw [hz] at HCz
        have HN := Lib.hid (show dup same (namesT t (j + 1)) = false ∧ relsP l t j (t.rels.drop j) = relsP l t (j + 1) (t.rels.drop (j + 1)) from ⟨HC.out.2.1 hz, by rw [HC.out.2.2.2, hz]; rfl⟩)
        clear hz
        go_wp2_with fail
        refine HCz.out.mono ?_
        rintro e y ⟨rfl, hy⟩
        have HX := Lib.hid (show Below X.heap.size X y ∧ StrRow X.heap.size y _ (namesT t (j + 1)) from ⟨HZ.out.1.trans (hy.mono HZ.out.1.size), own_below HZ.out.2.2.2.1 hy⟩)
        clear hy
        go_wp2_with fail
        go_roundw
        case rel => exact ⟨j + 1, by omega, by go_num, Lib.hid ⟨HX.out.2, HX.out.1, HN.out.1, by rw [HJ.out.2.2.2, HN.out.2]⟩⟩
        case measure => simp [intOf]; omega
      · have HN := Lib.hid (show relsP l t 0 t.rels = (t.name, r.name, relP l t j r) by rw [HJ.out.2.2.2, HC.out.2.2.2, if_pos hz])
        have hne : (relP l t j r != 0) = true := by simpa using hz
        generalize relP l t j r = zz at *
        clear hz
        go_wp2_with fail
        refine HCz.out.mono ?_
        rintro e y ⟨rfl, hy⟩
        have hkR := (hy.block _ (by have := HZ.out.1.size; have := HS1.out; omega)).trans ((HZ.out.1.block _ (by have := HS1.out; omega)).trans H0.out.2.2.1)
        have hk9 := (hy.block _ HZ.out.2.2.2.2).trans HZ.out.2.2.1
        have HX := Lib.hid (show Below X.heap.size X y from HZ.out.1.trans (hy.mono HZ.out.1.size))
        clear hy k0 k1 k2 k3 k4 k5 k6 k7 k8 b0 b1 b2
        obtain ⟨k0, k1, k2, k3, k4, k5, k6, k7, k8⟩ := box9 hk9
        obtain ⟨e0, e1, f0, f1⟩ := box2s hkR
        go_wp2_with fail
        change bodyPost _ _ _ _ _ (set2 y (w.heap.size + 1) t.name r.name)
        have hkF := set2_heap (a' := t.name) (b' := r.name) hkR
        have htF := set2_turns y (w.heap.size + 1) t.name r.name
        have HF := Lib.hid (show Below w.heap.size w (set2 y (w.heap.size + 1) t.name r.name) from (H0.out.1.trans (HX.out.mono (by have := HS1.out; omega))).trans (htF.below (H0.out.1.trans (HX.out.mono (by have := HS1.out; omega))).size fun k e => by omega))
        generalize set2 y (w.heap.size + 1) t.name r.name = F at *
        obtain ⟨g0, g1⟩ := box2 hkF
        refine bodyPost_ret (v := .tuple #[.agg #[.string t.name, .string r.name], .int .i64 zz]) (by simp [results, Tryz.results63, go_sem, g0, g1]) rfl ⟨by rw [HN.out], HF.out⟩
    · have hj' : j = (relsT t).length := by omega
      subst hj'
      have hkR := (HJ.out.2.1.block _ (by omega)).trans H0.out.2.2.1
      have HE := Lib.hid (show relsP l t 0 t.rels = (none0, none0, 0) by
        rw [HJ.out.2.2.2, List.drop_of_length_le (by have := HLEN.out; omega), relsP])
      have HX := Lib.hid hbw
      clear HJ hsx hbw
      obtain ⟨e0, e1, f0, f1⟩ := box2s hkR
      go_wp2_with fail
      change bodyPost _ _ _ _ _ (set2 wr (w.heap.size + 1) ⟨#[]⟩ ⟨#[]⟩)
      have hkF := set2_heap (a' := ⟨#[]⟩) (b' := ⟨#[]⟩) hkR
      have htF := set2_turns wr (w.heap.size + 1) ⟨#[]⟩ ⟨#[]⟩
      have HF := Lib.hid (show Below w.heap.size w (set2 wr (w.heap.size + 1) ⟨#[]⟩ ⟨#[]⟩) from HX.out.trans (htF.below HX.out.size fun k e => by omega))
      generalize set2 wr (w.heap.size + 1) ⟨#[]⟩ ⟨#[]⟩ = F at *
      obtain ⟨g0, g1⟩ := box2 hkF
      refine bodyPost_ret (v := .tuple #[.agg #[.string ⟨#[]⟩, .string ⟨#[]⟩], .int .i64 0]) (by simp [results, Tryz.results63, go_sem, g0, g1]) rfl ⟨by rw [HE.out]; rfl, HF.out⟩
def namesL (l : List Ty) (i : Nat) : List ByteArray := (l.take i).map (·.name)
theorem namesL_more (l : List Ty) {i : Nat} (h : i < l.length) : namesL l (i + 1) = namesL l i ++ [l[i].name] := by
  rw [namesL, List.take_succ_eq_append_getElem h, List.map_append]
  rfl
theorem namesL_len (l : List Ty) (i : Nat) : (namesL l i).length ≤ i := by
  rw [namesL, List.length_map, List.length_take]
  omega
theorem typeP_alt (l : List Ty) {i : Nat} (h : i < l.length) (hd : dup same (namesL l i) = false) : typeP l i l[i] = if tyErr l[i] (namesL l (i + 1)) ≠ 0 then (l[i].name, none0, tyErr l[i] (namesL l (i + 1))) else relsP l l[i] 0 l[i].rels := by
  have e : dup same (namesL l (i + 1)) = (l.take i).any fun x => same x.name l[i].name := by
    rw [namesL_more l h, dup_snoc, hd, Bool.false_or, namesL, List.any_map]
    rfl
  unfold typeP tyErr
  rw [e]
  by_cases h8 : 8 < l[i].rels.length
  · simp [h8]
  · cases (l.take i).any fun x => same x.name l[i].name <;> simp [h8]
theorem dup_next (t : Ty) (ns : List ByteArray) (hd : tyErr t ns = 0) : dup same ns = false ∧ t.rels.length ≤ 8 := by
  unfold tyErr at hd
  by_cases h8 : 8 < t.rels.length
  · rw [if_pos h8] at hd; cases hd
  · rw [if_neg h8] at hd
    cases hq : dup same ns with
    | true => rw [hq, if_pos rfl] at hd; cases hd
    | false => exact ⟨rfl, by omega⟩
theorem relsL_drop (l : List Ty) {i : Nat} (h : i < l.length) : relsL (l.drop i) = relsT l[i] ++ relsL (l.drop (i + 1)) := by
  rw [List.drop_eq_getElem_cons h]
  exact List.flatMap_cons
set_option maxHeartbeats 16000000 in
set_option maxRecDepth 100000 in
theorem fault_any (hw : Wd l) (w : World) (h : LayAt w l ao ro rc b) :
    Calls Tryz.prog 30 #[layV ao l.length cap ro (relsL l).length rc b] w fun e y => e = .returned (faultV (namesP l)) ∧ Below w.heap.size w y := by
  obtain ⟨q1, q2, q3, q4⟩ := two_boxes w #[.slice ao l.length cap, .slice ro (relsL l).length rc, .map (some b)] #[.string ⟨#[]⟩, .string ⟨#[]⟩] tLay tSpot
  have H0 := Lib.hid (And.intro q1 (And.intro q2 (And.intro q3 q4)))
  obtain ⟨us, hty⟩ := h.types
  have hbig : l.length ≤ 9223372036854775807 := hty.big
  have HA := Lib.hid (And.intro hw (And.intro h hty))
  have HSub := Lib.hid (show Sub w ro rc (relsL l) from ⟨h.rels, h.room⟩)
  clear hw h hty q1 q2 q3 q4
  go_enter Tryz.func30, Tryz.ntmps30
  go_upto_region 1 with fail
  generalize (w.alloc (.cells #[.slice ao l.length cap, .slice ro (relsL l).length rc, .map (some b)] tLay)).alloc (.cells #[.string ⟨#[]⟩, .string ⟨#[]⟩] tSpot) = X at *
  obtain ⟨b0, b1, b2⟩ := box3 H0.out.2.1
  obtain ⟨e0, e1, f0, f1⟩ := box2s H0.out.2.2.1
  have hsx := H0.out.2.2.2
  by_cases h6 : 6 < l.length
  · have h6' : decide ((6 : Int) < (l.length : Int)) = true := by rw [decide_eq_true_eq]; omega
    have HE := Lib.hid (show namesP l = (none0, none0, 3) by rw [namesP, if_pos h6])
    clear h6
    go_wp2_with fail
    change bodyPost _ _ _ _ _ (set2 X (w.heap.size + 1) ⟨#[]⟩ ⟨#[]⟩)
    have hkF := set2_heap (a' := ⟨#[]⟩) (b' := ⟨#[]⟩) H0.out.2.2.1
    have htF := set2_turns X (w.heap.size + 1) ⟨#[]⟩ ⟨#[]⟩
    have HF := Lib.hid (show Below w.heap.size w (set2 X (w.heap.size + 1) ⟨#[]⟩ ⟨#[]⟩) from H0.out.1.trans (htF.below H0.out.1.size fun k e => by omega))
    generalize set2 X (w.heap.size + 1) ⟨#[]⟩ ⟨#[]⟩ = F at *
    obtain ⟨g0, g1⟩ := box2 hkF
    refine bodyPost_ret (v := .tuple #[.agg #[.string ⟨#[]⟩, .string ⟨#[]⟩], .int .i64 3]) (by simp [results, Tryz.results30, go_sem, g0, g1]) rfl ⟨by rw [HE.out]; rfl, HF.out⟩
  have h6' : decide ((6 : Int) < (l.length : Int)) = false := by rw [decide_eq_false_iff_not]; omega
  have HE0 := Lib.hid (show namesP l = typesW l 0 l by rw [namesP, if_neg h6])
  have hl6 : l.length ≤ 6 := by omega
  clear h6 hsx
  go_wp2_with fail
  clear b0 b1 b2 e0 e1 f0 f1 h6'
  go_loopw [4, 5, 21] (fun fv sv i wr => ∃ j : Nat, j ≤ l.length ∧ i = .int .i64 j ∧ ∃ a c, sv = .slice a (relsL (l.drop j)).length c ∧ Hid (Sub w a c (relsL (l.drop j)) ∧ StrRow X.heap.size wr fv (namesL l j) ∧ Below X.heap.size X wr ∧ dup same (namesL l j) = false ∧ namesP l = typesW l j (l.drop j))) (fun _ _ i _ => l.length - (intOf i).toNat)
  case atStart => exact ⟨0, by omega, rfl, ro, rc, rfl, Lib.hid ⟨HSub.out, World.ownsRow_nil _ _ _ _, Below.refl _ _, rfl, HE0.out⟩⟩
  case round =>
    obtain ⟨j, hj, rfl, sa, sc, rfl, HJ⟩ := hrel
    obtain ⟨oo, oc, rfl⟩ := own_slice HJ.out.2.1
    have hbw : Below w.heap.size w wr := H0.out.1.trans (HJ.out.2.2.1.mono (by have := H0.out.2.2.2; omega))
    by_cases hlt : j < l.length
    · obtain ⟨g, q, tro, trc, tvs, hix, hg, c0', c1', hlaT⟩ := ty_at HA.out.2.2 cap hlt
      have c0 := (hbw.cell (p := ⟨g, q, none⟩) hg).trans c0'
      have c1 := (hbw.cell (p := ⟨g, q + 1, none⟩) hg).trans c1'
      have hmore := namesL_more l hlt
      have hnl := namesL_len l j
      have hat := typesW_at (l := l) hlt
      have hty := typeP_alt l hlt HJ.out.2.2.2.1
      have hsub := HJ.out.1
      rw [relsL_drop l hlt] at hsub
      obtain ⟨p1, p2, pc2, hs1, hs2, hsub1, hsub2⟩ := hsub.parts
      rw [← relsL_drop l hlt] at hs1 hs2
      have htm : l[j] ∈ l := List.getElem_mem hlt
      have hdn := dup_next l[j] (namesL l (j + 1))
      have htb : l[j].rels.length ≤ 9223372036854775807 := hlaT.big
      have hsz : ∀ s ∈ namesL l (j + 1), s.size ≤ 16 := fun s hs => by
        obtain ⟨t, ht, rfl⟩ := List.mem_map.1 hs
        exact HA.out.1.ty t (List.mem_of_mem_take ht)
      have hlenT := relsT_len l[j]
      generalize l[j] = t at *
      rw [hlenT] at hs1 hs2
      have al1 := Tr.fresh_one wr (.cells #[.string t.name, .slice tro t.rels.length trc] 40)
      have hk1 := heap_alloc_new wr (.cells #[.string t.name, .slice tro t.rels.length trc] 40)
      have hs1' : (wr.alloc (.cells #[.string t.name, .slice tro t.rels.length trc] 40)).heap.size = wr.heap.size + 1 := by simp
      have H1 := Lib.hid (And.intro (HJ.out.2.2.1.trans (al1.mono HJ.out.2.2.1.size)) (And.intro hk1 (own_below HJ.out.2.1 al1)))
      have HS1 := Lib.hid (And.intro hs1' (And.intro HJ.out.2.2.1.size H0.out.2.2.2))
      have HN := Lib.hid (And.intro hmore (And.intro hat (And.intro hty (And.intro hdn (And.intro hsz (And.intro hsub1 (And.intro hsub2 (And.intro htm hlenT))))))))
      clear hlaT hmore hat hty hdn hsz hsub hsub1 hsub2 htm c0' c1' hg hk1 hs1' al1 hlenT hbw
      go_upto_region 8 with fail
      clear c0 c1
      generalize wr.alloc (.cells #[.string t.name, .slice tro t.rels.length trc] 40) = Y at *
      obtain ⟨k0, k1⟩ := box2 H1.out.2.1
      have al := Tr.fresh_one Y (.cells #[.string t.name] 9)
      have HY := Lib.hid (And.intro (own_below H1.out.2.2 al) (And.intro (H1.out.1.trans (al.mono H1.out.1.size)) ((al.block _ (by have := HS1.out; omega)).trans H1.out.2.1)))
      have hy0 : X.heap.size ≤ (Y.alloc (.cells #[.string t.name] 9)).heap.size := HY.out.2.1.size
      obtain ⟨ti, tz, tb, TE, hT⟩ := strs_elem
      have HTE := Lib.hid (And.intro TE hT)
      clear al TE hT
      go_wp2_with (at_builtin; refine walk_rows HTE.out.1 rfl _ _ rfl rfl rfl HY.out.1 hy0 (m := 1) rfl (new_cells _ _ [.string t.name] (by simp)) (by intro u' hu'; simp at hu'; subst hu'; rfl) (by omega) (Nat.le_trans (Nat.mul_le_mul_left _ HTE.out.2) (by omega)) ?_)
      intro v2 z2 r2 gr2 n2
      have hz2 : Turns (fun k => (Value.slice oo (namesL l j).length oc).ownBlock = some k) _ z2 := Turns.of_grown gr2 fun k hk => hk
      have hrow2 : StrRow X.heap.size z2 v2 (namesL l (j + 1)) := by
        show World.ownsRow _ _ _ _ _ _ _
        rw [HN.out.1, List.length_append, List.map_append]
        exact r2
      have hbz : Below X.heap.size X z2 := HY.out.2.1.trans (hz2.below hy0 fun k hk => (World.ownsRow.lt HY.out.1 k hk).1)
      have hnot : ∀ k, (Value.slice oo (namesL l j).length oc).ownBlock = some k → k < wr.heap.size := fun k hk => (World.ownsRow.lt HJ.out.2.1 k hk).2
      have hkz := hz2.heap HY.out.2.2 (fun hk => by have := hnot _ hk; omega)
      have HZ := Lib.hid (show Below X.heap.size X z2 ∧ Below w.heap.size w z2 ∧ z2.heap[wr.heap.size]? = _ ∧ StrRow X.heap.size z2 v2 (namesL l (j + 1)) ∧ wr.heap.size < z2.heap.size from
        ⟨hbz, H0.out.1.trans (hbz.mono (by have := HS1.out; omega)), hkz, hrow2, (Array.getElem?_eq_some_iff.1 hkz).1⟩)
      have hn2 := namesL_len l (j + 1)
      have HCz := Lib.hid (typeFault_any X.heap.size t (namesL l (j + 1)) tro trc v2 z2 hrow2 HN.out.2.2.2.2.1 (by omega) htb)
      obtain ⟨vo2, vc2, rfl⟩ := own_slice (show z2.ownsRow X.heap.size 9 1 v2 _ _ from hrow2)
      clear r2 gr2 n2 hz2 hrow2 hbz hnot hkz hy0 k0 k1
      obtain ⟨k0, k1⟩ := box2 HZ.out.2.2.1
      by_cases hz : tyErr t (namesL l (j + 1)) = 0
      · rw [hz] at HCz
        have HD := Lib.hid (And.intro hz (HN.out.2.2.2.1 hz))
        clear hz
        go_wp2_with fail
        refine HCz.out.mono ?_
        rintro e y ⟨rfl, hy⟩
        have HX := Lib.hid (show Below X.heap.size X y ∧ Below w.heap.size w y ∧ y.heap[wr.heap.size]? = _ ∧ StrRow X.heap.size y _ (namesL l (j + 1)) from ⟨HZ.out.1.trans (hy.mono HZ.out.1.size), HZ.out.2.1.trans (hy.mono HZ.out.2.1.size), (hy.block _ HZ.out.2.2.2.2).trans HZ.out.2.2.1, own_below HZ.out.2.2.2.1 hy⟩)
        clear hy k0 k1
        have HSX := Lib.hid (show w.heap.size + 1 < y.heap.size ∧ wr.heap.size < y.heap.size from ⟨by have := HX.out.1.size; have := HS1.out; omega, (Array.getElem?_eq_some_iff.1 HX.out.2.2.1).1⟩)
        go_upto_region 12 with fail
        obtain ⟨sp, sn, code, hsp⟩ : ∃ a b c, relsP l t 0 t.rels = (a, b, c) := ⟨_, _, _, rfl⟩
        have HCf := Lib.hid (fun x (hx : Below w.heap.size w x) => relsFault_any (cap := cap) HA.out.1 x (HA.out.2.1.below hx) t HN.out.2.2.2.2.2.2.2.1 (by have := HD.out.2.2; omega) p1 sc (HN.out.2.2.2.2.2.1.below hx))
        rw [HN.out.2.2.2.2.2.2.2.2] at HCf
        rw [hsp] at HCf
        have HSP := Lib.hid hsp
        clear hsp
        go_cut [9, 10] (fun s9 s10 wx => ∃ R9, s9 = .pointer (some ⟨R9, 0, none⟩) ∧ s10 = .int .i64 code ∧ wx.heap[R9]? = some (.cells #[.string sp, .string sn] tSpot (0, 0)) ∧ Below y.heap.size y wx)
        case first =>
          have HXX := Lib.hid (show ∀ x, Below y.heap.size y.drew x → (x.cell? ⟨w.heap.size, 0, none⟩ = some (.slice ao l.length cap) ∧ x.cell? ⟨w.heap.size, 1, none⟩ = some (.slice ro (relsL l).length rc) ∧ x.cell? ⟨w.heap.size, 2, none⟩ = some (.map (some b))) ∧ x.cell? ⟨wr.heap.size, 1, none⟩ = some (.slice tro t.rels.length trc) from fun x hx => by
            have hb : Below y.heap.size y x := (Below.refl _ _).drew.trans hx
            have hb2 : Below X.heap.size X x := HX.out.1.trans (hb.mono HX.out.1.size)
            exact ⟨box3 ((hb2.block _ (by have := HS1.out; omega)).trans H0.out.2.1), (box2 ((hb.block _ HSX.out.2).trans HX.out.2.2.1)).2⟩)
          refine Order.region_begin (S := Below y.heap.size y.drew) (by kernel_rfl) ?_
          refine Order.reads_any (idx := [0, 1, 2, 3, 4, 5]) (by kernel_rfl) (Below.refl _ _) (fun _ _ _ _ _ h => Order.noPanic_put h) 7 _ _ (by decide +kernel) ?_
          simp only [Order.pick, List.getElem?_toArray, List.getElem?_cons_zero, List.getElem?_cons_succ]
          repeat (first
            | (refine Order.reads_off (by rfl) ?_
               simp only [Act.put, List.setIfInBounds_toArray, List.set_cons_zero, List.set_cons_succ])
            | (apply Order.reads_on
               · rfl
               · intro x hx
                 first
                   | (go_simp; rfl)
                   | (obtain ⟨⟨i1, i2, i3⟩, i4⟩ := HXX.out x hx
                      go_simp; rfl)
               simp only [Act.put, List.setIfInBounds_toArray, List.set_cons_zero, List.set_cons_succ]))
          refine Order.reads_end ?_
          apply acts_two (R := Below y.heap.size) (fun h k => h.trans k) (i := 6) (j := 10)
          · rfl
          · rfl
          · decide +kernel
          · rfl
          · rfl
          · unfold Oper.wp
            go_simp
            refine Calls.mono (HCf.out _ (HX.out.2.1.trans ((Below.refl _ _).drew.mono HX.out.2.1.size))) ?_
            rintro e z ⟨rfl, hz⟩
            refine ⟨hz, ?_⟩
            refine Order.reads_any (idx := [7, 8, 9]) (by kernel_rfl) (Below.refl _ _) (fun _ _ _ _ _ h => Order.noPanic_put h) 3 _ _ (by decide +kernel) ?_
            simp only [Order.pick, List.getElem?_toArray, List.getElem?_cons_zero, List.getElem?_cons_succ]
            repeat (first
              | (refine Order.reads_off (by rfl) ?_
                 simp only [Act.put, List.setIfInBounds_toArray, List.set_cons_zero, List.set_cons_succ])
              | (apply Order.reads_on
                 · rfl
                 · intro x hx
                   first
                     | (go_simp; rfl)
                     | (fail
                        go_simp; rfl)
                 simp only [Act.put, List.setIfInBounds_toArray, List.set_cons_zero, List.set_cons_succ]))
            refine Order.reads_end ?_
            have hk := heap_alloc_new z (.cells #[.string ⟨#[]⟩, .string ⟨#[]⟩] tSpot)
            have al := Tr.fresh_one z (.cells #[.string ⟨#[]⟩, .string ⟨#[]⟩] tSpot)
            have HAL := Lib.hid (show Below y.heap.size y.drew (z.alloc (.cells #[.string ⟨#[]⟩, .string ⟨#[]⟩] tSpot)) ∧ y.heap.size ≤ (z.alloc (.cells #[.string ⟨#[]⟩, .string ⟨#[]⟩] tSpot)).heap.size ∧ y.heap.size ≤ z.heap.size from ⟨hz.trans (al.mono hz.size), Nat.le_trans (show y.heap.size ≤ z.heap.size from hz.size) al.size, hz.size⟩)
            have HL5 := Lib.hid (show Below y.heap.size z (z.alloc (.cells #[.string ⟨#[]⟩, .string ⟨#[]⟩] tSpot)) from al.mono hz.size)
            clear al hz
            apply Order.acts_any (R := (Below y.heap.size)) (fun h k => h.trans k) (i := 10)
            · rfl
            · decide +kernel
            · rfl
            unfold Oper.wp
            go_simp
            refine ⟨HL5.out, ?_⟩
            clear HL5
            generalize z.alloc (.cells #[.string ⟨#[]⟩, .string ⟨#[]⟩] tSpot) = Q8 at *
            generalize z.heap.size = R9 at *
            apply Order.acts_any (R := (Below y.heap.size)) (fun h k => h.trans k) (i := 11)
            · rfl
            · decide +kernel
            · rfl
            simp only [List.getElem_toArray, List.getElem_cons_succ, List.getElem_cons_zero]
            refine wp_fill tSpot (.tmp 9) (.tmp 47) rfl (cells := #[.string sp, .string sn]) (by rfl) (by rfl) hk info_spot rfl (spot_one sp sn) ?_
            intro Z hZ htZ
            have hbZ : Below y.heap.size Q8 Z := htZ.below HAL.out.2.1 fun k e => by have := HAL.out.2.2; omega
            refine ⟨hbZ, ?_⟩
            have HF := Lib.hid (And.intro hZ ((Below.refl _ _).drew.trans (HAL.out.1.trans hbZ)))
            clear hZ htZ hbZ HAL hk
            simp only [Act.put]
            refine Order.reads_any (idx := [12]) (by kernel_rfl) (Below.refl _ _) (fun _ _ _ _ _ h => Order.noPanic_put h) 0 _ _ (by decide +kernel) ?_
            simp only [Order.pick, List.getElem?_toArray, List.getElem?_cons_zero, List.getElem?_cons_succ]
            repeat (first
              | (refine Order.reads_off (by rfl) ?_
                 simp only [Act.put, List.setIfInBounds_toArray, List.set_cons_zero, List.set_cons_succ])
              | (apply Order.reads_on
                 · rfl
                 · intro x hx
                   first
                     | (go_simp; rfl)
                     | (fail
                        go_simp; rfl)
                 simp only [Act.put]))
            refine Order.reads_end ?_
            refine wpAnyH_done (by decide +kernel) ?_ _
            refine NoPanic.normal ?_
            go_wp2_with fail
            go_meet
            case rel => exact ⟨_, rfl, rfl, HF.out.1, HF.out.2⟩
          · unfold Oper.wp
            go_simp
            have al : Below y.heap.size y.drew (y.alloc (.cells #[.string ⟨#[]⟩, .string ⟨#[]⟩] tSpot)).drew := ⟨rfl, rfl, rfl, (Tr.fresh_one y _).size, fun i hi => (Tr.fresh_one y _).block i hi⟩
            have hk0 : (y.alloc (.cells #[.string ⟨#[]⟩, .string ⟨#[]⟩] tSpot)).drew.heap[y.heap.size]? = some (.cells #[.string ⟨#[]⟩, .string ⟨#[]⟩] tSpot (0, 0)) := heap_alloc_new y _
            refine ⟨al, ?_⟩
            have HK0 := Lib.hid (And.intro hk0 al)
            clear hk0 al
            generalize (y.alloc (.cells #[.string ⟨#[]⟩, .string ⟨#[]⟩] tSpot)).drew = Y5 at *
            apply Order.acts_any (R := (Below y.heap.size)) (fun h k => h.trans k) (i := 6)
            · rfl
            · decide +kernel
            · rfl
            unfold Oper.wp
            go_simp
            refine Calls.mono (HCf.out _ (HX.out.2.1.trans (((Below.refl _ _).drew.trans HK0.out.2).mono HX.out.2.1.size))) ?_
            rintro e Q8 ⟨rfl, hz⟩
            refine ⟨hz.mono HK0.out.2.size, ?_⟩
            refine Order.reads_any (idx := [7, 8, 9]) (by kernel_rfl) (Below.refl _ _) (fun _ _ _ _ _ h => Order.noPanic_put h) 2 _ _ (by decide +kernel) ?_
            simp only [Order.pick, List.getElem?_toArray, List.getElem?_cons_zero, List.getElem?_cons_succ]
            repeat (first
              | (refine Order.reads_off (by rfl) ?_
                 simp only [Act.put, List.setIfInBounds_toArray, List.set_cons_zero, List.set_cons_succ])
              | (apply Order.reads_on
                 · rfl
                 · intro x hx
                   first
                     | (go_simp; rfl)
                     | (fail
                        go_simp; rfl)
                 simp only [Act.put, List.setIfInBounds_toArray, List.set_cons_zero, List.set_cons_succ]))
            refine Order.reads_end ?_
            have hk := (hz.block _ (Array.getElem?_eq_some_iff.1 HK0.out.1).1).trans HK0.out.1
            have hbq := HK0.out.2.trans (hz.mono HK0.out.2.size)
            have HAL := Lib.hid (show Below y.heap.size y.drew Q8 ∧ y.heap.size ≤ Q8.heap.size ∧ y.heap.size ≤ y.heap.size from ⟨hbq, hbq.size, Nat.le_refl _⟩)
            clear hz hbq HK0
            apply Order.acts_any (R := (Below y.heap.size)) (fun h k => h.trans k) (i := 11)
            · rfl
            · decide +kernel
            · rfl
            simp only [List.getElem_toArray, List.getElem_cons_succ, List.getElem_cons_zero]
            refine wp_fill tSpot (.tmp 9) (.tmp 47) rfl (cells := #[.string sp, .string sn]) (by rfl) (by rfl) hk info_spot rfl (spot_one sp sn) ?_
            intro Z hZ htZ
            have hbZ : Below y.heap.size Q8 Z := htZ.below HAL.out.2.1 fun k e => by have := HAL.out.2.2; omega
            refine ⟨hbZ, ?_⟩
            have HF := Lib.hid (And.intro hZ ((Below.refl _ _).drew.trans (HAL.out.1.trans hbZ)))
            clear hZ htZ hbZ HAL hk
            simp only [Act.put]
            refine Order.reads_any (idx := [12]) (by kernel_rfl) (Below.refl _ _) (fun _ _ _ _ _ h => Order.noPanic_put h) 0 _ _ (by decide +kernel) ?_
            simp only [Order.pick, List.getElem?_toArray, List.getElem?_cons_zero, List.getElem?_cons_succ]
            repeat (first
              | (refine Order.reads_off (by rfl) ?_
                 simp only [Act.put, List.setIfInBounds_toArray, List.set_cons_zero, List.set_cons_succ])
              | (apply Order.reads_on
                 · rfl
                 · intro x hx
                   first
                     | (go_simp; rfl)
                     | (fail
                        go_simp; rfl)
                 simp only [Act.put]))
            refine Order.reads_end ?_
            refine wpAnyH_done (by decide +kernel) ?_ _
            refine NoPanic.normal ?_
            go_wp2_with fail
            go_meet
            case rel => exact ⟨_, rfl, rfl, HF.out.1, HF.out.2⟩
        case rest =>
          obtain ⟨R9, rfl, rfl, hk9, hwx⟩ := hcut
          rename World => wx
          have HW := Lib.hid (show Below X.heap.size X wx ∧ StrRow X.heap.size wx _ (namesL l (j + 1)) ∧ wx.heap[wr.heap.size]? = _ from ⟨HX.out.1.trans (hwx.mono HX.out.1.size), own_below HX.out.2.2.2 hwx, (hwx.block _ HSX.out.2).trans HX.out.2.2.1⟩)
          clear hwx HX HCf
          by_cases hz : code = 0
          · subst hz
            have HE := Lib.hid (show namesP l = typesW l (j + 1) (l.drop (j + 1)) by rw [HJ.out.2.2.2.2, HN.out.2.1, HN.out.2.2.1, HD.out.1, HSP.out]; rfl)
            obtain ⟨k0, k1⟩ := box2 HW.out.2.2
            clear hk9
            go_wp2_with fail
            go_roundw
            case rel => exact ⟨j + 1, by omega, by go_num, p2, pc2, rfl, Lib.hid ⟨HN.out.2.2.2.2.2.2.1, HW.out.2.1, HW.out.1, HD.out.2.1, HE.out⟩⟩
            case measure => simp [intOf]; omega
          · have hne : (code != 0) = true := by simpa using hz
            have HE := Lib.hid (show namesP l = (sp, sn, code) by rw [HJ.out.2.2.2.2, HN.out.2.1, HN.out.2.2.1, HD.out.1, HSP.out]; simp [hz])
            have hkR := (HW.out.1.block _ (by have := HS1.out; omega)).trans H0.out.2.2.1
            obtain ⟨k0, k1⟩ := box2 hk9
            obtain ⟨e0, e1, f0, f1⟩ := box2s hkR
            have HBW := Lib.hid (show Below w.heap.size w wx from H0.out.1.trans (HW.out.1.mono (by have := HS1.out; omega)))
            clear hz hk9
            go_wp2_with fail
            change bodyPost _ _ _ _ _ (set2 wx (w.heap.size + 1) sp sn)
            have hkF := set2_heap (a' := sp) (b' := sn) hkR
            have htF := set2_turns wx (w.heap.size + 1) sp sn
            have HF := Lib.hid (show Below w.heap.size w (set2 wx (w.heap.size + 1) sp sn) from HBW.out.trans (htF.below HBW.out.size fun k e => by omega))
            generalize set2 wx (w.heap.size + 1) sp sn = F at *
            obtain ⟨g0, g1⟩ := box2 hkF
            refine bodyPost_ret (v := .tuple #[.agg #[.string sp, .string sn], .int .i64 code]) (by simp [results, Tryz.results30, go_sem, g0, g1]) rfl ⟨by rw [HE.out], HF.out⟩
      · have hne : (tyErr t (namesL l (j + 1)) != 0) = true := by simpa using hz
        have HE := Lib.hid (show namesP l = (t.name, none0, tyErr t (namesL l (j + 1))) by rw [HJ.out.2.2.2.2, HN.out.2.1, HN.out.2.2.1]; simp [hz])
        generalize tyErr t (namesL l (j + 1)) = code at *
        clear hz
        go_wp2_with fail
        refine HCz.out.mono ?_
        rintro e y ⟨rfl, hy⟩
        have hkR := (hy.block _ (by have := HZ.out.1.size; have := HS1.out; omega)).trans ((HZ.out.1.block _ (by have := HS1.out; omega)).trans H0.out.2.2.1)
        have hk9 := (hy.block _ HZ.out.2.2.2.2).trans HZ.out.2.2.1
        have HBW := Lib.hid (show Below w.heap.size w y from HZ.out.2.1.trans (hy.mono HZ.out.2.1.size))
        clear hy k0 k1
        obtain ⟨k0, k1⟩ := box2 hk9
        obtain ⟨e0, e1, f0, f1⟩ := box2s hkR
        go_wp2_with fail
        change bodyPost _ _ _ _ _ (set2 y (w.heap.size + 1) t.name ⟨#[]⟩)
        have hkF := set2_heap (a' := t.name) (b' := ⟨#[]⟩) hkR
        have htF := set2_turns y (w.heap.size + 1) t.name ⟨#[]⟩
        have HF := Lib.hid (show Below w.heap.size w (set2 y (w.heap.size + 1) t.name ⟨#[]⟩) from HBW.out.trans (htF.below HBW.out.size fun k e => by omega))
        generalize set2 y (w.heap.size + 1) t.name ⟨#[]⟩ = F at *
        obtain ⟨g0, g1⟩ := box2 hkF
        refine bodyPost_ret (v := .tuple #[.agg #[.string t.name, .string ⟨#[]⟩], .int .i64 code]) (by simp [results, Tryz.results30, go_sem, g0, g1]) rfl ⟨by rw [HE.out]; rfl, HF.out⟩
    · have hj' : j = l.length := by omega
      subst hj'
      have hkR := (HJ.out.2.2.1.block _ (by have := H0.out.2.2.2; omega)).trans H0.out.2.2.1
      have HE := Lib.hid (show namesP l = (none0, none0, 0) by rw [HJ.out.2.2.2.2, List.drop_length, typesW])
      have HX := Lib.hid hbw
      clear HJ hbw
      obtain ⟨e0, e1, f0, f1⟩ := box2s hkR
      go_wp2_with fail
      change bodyPost _ _ _ _ _ (set2 wr (w.heap.size + 1) ⟨#[]⟩ ⟨#[]⟩)
      have hkF := set2_heap (a' := ⟨#[]⟩) (b' := ⟨#[]⟩) hkR
      have htF := set2_turns wr (w.heap.size + 1) ⟨#[]⟩ ⟨#[]⟩
      have HF := Lib.hid (show Below w.heap.size w (set2 wr (w.heap.size + 1) ⟨#[]⟩ ⟨#[]⟩) from HX.out.trans (htF.below HX.out.size fun k e => by omega))
      generalize set2 wr (w.heap.size + 1) ⟨#[]⟩ ⟨#[]⟩ = F at *
      obtain ⟨g0, g1⟩ := box2 hkF
      refine bodyPost_ret (v := .tuple #[.agg #[.string ⟨#[]⟩, .string ⟨#[]⟩], .int .i64 0]) (by simp [results, Tryz.results30, go_sem, g0, g1]) rfl ⟨by rw [HE.out]; rfl, HF.out⟩
end
end Ly
end Go.Proofs.YtopncohhagebbaaGreatDoor
