/-
  Layer 9's document: Check: all relations with their strata, or what is wrong and where.
  Layer 9: stilelaw09's Few; what the program's Check is to answer; rows of the program's items; Check's answer is one.
  Layer 9: rows of the program's items in memory; what the program's Check is to answer; the statement LintChecks, walked upon that.
-/
import Derived.Test.YtopncohhagebbaaGreatDoorLgH
import Derived.Test.YtopncohhagebbaaGreatDoorCnRGood
import Derived.StillTailTactics
import Derived.Test.YtopncohhagebbaaGreatDoorCnFew
namespace Go.Proofs.YtopncohhagebbaaGreatDoor
open Go.RowKit
namespace Lt
open Tr (Nd IsNode node4 none0 size own_open own_slice own_below own_turn)
open Gr (Al Rl Ty IsCf tCf box1)
open Cn (gC ShortC rGood_any)
open Knot (Turns NewRow)

def sp (T : Tbl) (i k : Nat) : Nat := ((List.range k).map fun c => (T i c).toNat).foldl max 0
theorem sp_more (T : Tbl) (i k : Nat) : sp T i (k + 1) = max (sp T i k) (T i k).toNat := by
  rw [sp, List.range_succ, List.map_append, List.foldl_append]
  rfl
theorem sp_all (n : Nat) (T : Tbl) (i : Nat) : sp T i n = strat n T i := rfl
theorem max_nat (s : Nat) (x : Int) : max (s : Int) x = ((max s x.toNat : Nat) : Int) := by omega
def Rnd (n : Nat) (e : Nat → Nat → Int) (i : Nat) : Prop := ∃ L, Way n e i i L ∧ L ≠ []
theorem rnd_iff {n N : Nat} {e T : Tbl} (h : Sound n N e T) (hf : Full n N T) (hN : 1 ≤ N) {i : Nat} (hi : i < n) : Rnd n e i ↔ 0 < T i i := by
  constructor
  · rintro ⟨L, hw, hL⟩
    have h1 := h.all hf hw
    have h2 := List.length_pos_iff.2 hL
    omega
  · intro h0
    obtain ⟨L, hw, hL⟩ := h.way i i hi hi (by omega)
    refine ⟨L, hw, fun e => ?_⟩
    rw [hL, e] at h0
    simp at h0
    omega
def CheckOut (l : List Ty) (S : Nat → Int) (t r : ByteArray) (code : Int) (its : List It) : Prop :=
  (gC l = false ∧ its = [] ∧ t = none0 ∧ r = none0 ∧ code = 2) ∨
  (gC l = true ∧ (namesP l).2.2 ≠ 0 ∧ its = [] ∧ t = (namesP l).1 ∧ r = (namesP l).2.1 ∧ code = (namesP l).2.2) ∨
  (gC l = true ∧ (namesP l).2.2 = 0 ∧ its = [] ∧ code = 16 ∧ ∃ i a, (items l)[i]? = some a ∧ t = a.1 ∧ r = a.2 ∧ Rnd (items l).length (edge l) i ∧ ∀ j, j < i → ¬ Rnd (items l).length (edge l) j) ∨
  (gC l = true ∧ (namesP l).2.2 = 0 ∧ its = items l ∧ code = 0 ∧ t = none0 ∧ r = none0 ∧ (∀ i, i < (items l).length → ¬ Rnd (items l).length (edge l) i) ∧ ∀ i, i < (items l).length → ∃ s : Nat, S i = s ∧ IsStr (items l).length (edge l) i s)

def ItMem (B : Nat) (x : World) (v : Value) (its : List It) (S : Nat → Int) : Prop :=
  ∃ ao cap, v = .slice ao its.length cap ∧ (its ≠ [] → ∃ g cur, ao = some ⟨g, 0, none⟩ ∧ B ≤ g ∧ x.heap[g]? = some (.cells cur tIt (0, 0)) ∧
    ∀ j (h : j < its.length), cur[j * 3]? = some (.string its[j].1) ∧ cur[j * 3 + 1]? = some (.string its[j].2) ∧ cur[j * 3 + 2]? = some (.int .i64 (S j)))
section
variable {B : Nat} {x y : World} {v : Value} {its : List It} {S : Nat → Int}
theorem ItMem.of (h : ItRow B x v (zr its)) : ItMem B x v its (fun _ => 0) := by
  have h' : x.ownsRow B tIt 3 v (zr its).length (cellsI (zr its)) := h
  rw [zr_len] at h'
  obtain ⟨ao, cap, rfl⟩ := own_slice h'
  refine ⟨ao, cap, rfl, fun hne => ?_⟩
  have hpos := List.length_pos_iff.2 hne
  rcases h'.2 with ⟨-, h0⟩ | ⟨g, cap', cur, hv, hb, hg, hn, hcm, hcs, htk⟩
  · omega
  · obtain ⟨rfl, -⟩ : ao = some ⟨g, 0, none⟩ ∧ cap = cap' := by simpa using hv
    refine ⟨g, cur, rfl, hb, hg, fun j hj => ?_⟩
    have hjz : j < (zr its).length := by rwa [zr_len]
    obtain ⟨h0, h1, h2⟩ := cellsI_at (zr its) hjz
    have e : (zr its)[j] = (its[j], 0) := by simp [zr]
    rw [e] at h0 h1 h2
    have key : ∀ (k : Nat) (u : Value), (cellsI (zr its))[k]? = some u → cur[k]? = some u := fun k u hk => by
      rw [← htk] at hk
      have hlt : k < its.length * 3 := by
        have := (List.getElem?_eq_some_iff.1 hk).1
        rw [List.length_take] at this
        omega
      rw [List.getElem?_take, if_pos hlt] at hk
      simpa using hk
    exact ⟨key _ _ h0, key _ _ h1, key _ _ h2⟩
theorem ItMem.turn (h : ItMem B x v its S) {F : Nat → Prop} (ht : Turns F x y) (hF : ∀ k, F k → ¬ v.ownBlock = some k) : ItMem B y v its S := by
  obtain ⟨ao, cap, rfl, hk⟩ := h
  refine ⟨ao, cap, rfl, fun hne => ?_⟩
  obtain ⟨g, cur, rfl, hb, hg, hc⟩ := hk hne
  exact ⟨g, cur, rfl, hb, ht.heap hg (fun hf => hF g hf rfl), hc⟩
theorem ItMem.below (h : ItMem B x v its S) (hb : Below x.heap.size x y) : ItMem B y v its S := h.turn (F := fun _ => False) (Turns.of_below hb) fun _ h => h.elim
theorem ItMem.mono (h : ItMem B x v its S) {C : Nat} (hC : C ≤ B) : ItMem C x v its S := by
  obtain ⟨ao, cap, hv, hk⟩ := h
  refine ⟨ao, cap, hv, fun hne => ?_⟩
  obtain ⟨g, cur, hg, hb, r⟩ := hk hne
  exact ⟨g, cur, hg, Nat.le_trans hC hb, r⟩
theorem ItMem.at (h : ItMem B x v its S) {j : Nat} (hj : j < its.length) :
    ∃ g, (∀ W, (Instr.indexAt 104 v (.int .i64 (j : Int))).run Tryz.prog W = .ok (.pointer (some ⟨g, j * 3, none⟩)) W) ∧ B ≤ g ∧ g < x.heap.size ∧ v.ownBlock = some g ∧
      x.cell? ⟨g, j * 3, none⟩ = some (.string its[j].1) ∧ x.cell? ⟨g, j * 3 + 1, none⟩ = some (.string its[j].2) ∧ x.cell? ⟨g, j * 3 + 2, none⟩ = some (.int .i64 (S j)) ∧ x.frozen? ⟨g, j * 3 + 2, none⟩ = false := by
  obtain ⟨ao, cap, rfl, hk⟩ := h
  obtain ⟨g, cur, rfl, hb, hg, hc⟩ := hk (fun e => by rw [e] at hj; simp at hj)
  obtain ⟨c0, c1, c2⟩ := hc j hj
  refine ⟨g, fun W => ?_, hb, (Array.getElem?_eq_some_iff.1 hg).1, rfl, by rw [Lib.cell_of_heap hg]; exact c0, by rw [Lib.cell_of_heap hg]; exact c1, by rw [Lib.cell_of_heap hg]; exact c2, Lib.frozen_of_heap hg _⟩
  rw [run_indexAt_slice W _ _ _ _ _ _ elemI, if_pos ⟨by omega, by omega⟩, sizeI]
  have e : ((j : Int)).toNat = j := by omega
  simp only [Result.andThen_ok, e, Addr.add_lit, Nat.zero_add]
theorem ItMem.put (h : ItMem B x v its S) {g : Nat} (hg : v.ownBlock = some g) (i : Nat) (z : Int) : ItMem B (x.setCell ⟨g, i * 3 + 2, none⟩ (.int .i64 z)) v its (fun j => if j = i then z else S j) := by
  obtain ⟨ao, cap, rfl, hk⟩ := h
  refine ⟨ao, cap, rfl, fun hne => ?_⟩
  obtain ⟨g', cur, rfl, hb, hh, hc⟩ := hk hne
  obtain rfl : g' = g := by simpa [Value.ownBlock] using hg
  refine ⟨g', _, rfl, hb, Lib.heap_setCell_same hh _, fun j hj => ?_⟩
  obtain ⟨c0, c1, c2⟩ := hc j hj
  rw [Array.getElem?_setIfInBounds, Array.getElem?_setIfInBounds, Array.getElem?_setIfInBounds, if_neg (by omega), if_neg (by omega)]
  refine ⟨c0, c1, ?_⟩
  by_cases e : j = i
  · subst e
    rw [if_pos rfl, if_pos (Array.getElem?_eq_some_iff.1 c2).1]
    simp only [if_true]
  · rw [if_neg (by omega)]
    simp only [if_neg e]
    exact c2
theorem Rws.turn {n : Nat} {gs : List (Nat × Nat)} {T : Tbl} (h : Rws B x v n gs T) {F : Nat → Prop} (ht : Turns F x y) (hF : ∀ k, F k → k < B) : Rws B y v n gs T :=
  ⟨own_turn h.own ht (fun k hk hf => by have := (World.ownsRow.lt h.own k hk).1; have := hF k hf; omega), fun i hi => (h.row i hi).kept (ht.block _ (h.row i hi).lt (fun hf => by have := h.low _ (List.getElem_mem hi); have := hF _ hf; omega)), h.low, h.far, h.nod⟩
end
set_option maxHeartbeats 32000000 in
set_option maxRecDepth 100000 in
theorem rcheck_any (l : List Ty) (v : Value) (w : World) (h : IsCf w l v) (hsh : ShortC l) (hs : Scant l) (hz : Slim l) (hn : (items l).length ≤ 1000) :
    Calls Tryz.prog 41 #[v] w fun e y => ∃ u t r code S its, e = .returned (.tuple #[u, .string t, .string r, .int .i64 code]) ∧ CheckOut l S t r code its ∧ ItMem w.heap.size y u its S ∧ Below w.heap.size w y := by
  have HC := Lib.hid (And.intro h (And.intro hs (And.intro hz hn)))
  have HG := Lib.hid (fun x (hb : Below w.heap.size w x) => rGood_any l v x (h.below hb) hsh (fun t ht r hr => Nat.le_trans (hz t ht r hr) (by decide)))
  have HN := Lib.hid (fun x (hb : Below w.heap.size w x) => rnames_any l v x (h.below hb) hs hz)
  have HI := Lib.hid (fun x (hb : Below w.heap.size w x) => ritems_any l v x (h.below hb) (Nat.le_trans hn (by decide)))
  have HW := Lib.hid (fun x (hb : Below w.heap.size w x) => rways_any l v x (h.below hb) hs hz hn)
  obtain ⟨ao, cap, us, rfl, -⟩ := h
  have h0 := heap_alloc_new w (.cells #[.slice ao l.length cap] tCf)
  have al := Tr.fresh_one w (.cells #[.slice ao l.length cap] tCf)
  have H0 := Lib.hid (And.intro al h0)
  have b0 := box1 h0
  have HE : ∀ x, ItMem w.heap.size x (.slice none 0 0) [] (fun _ => 0) := fun x => ⟨none, 0, rfl, fun h => absurd rfl h⟩
  have HEm := Lib.hid HE
  clear al h0 hs hz hn hsh HE
  go_enter Tryz.func41, Tryz.ntmps41
  go_wp2_with fail
  refine (HG.out _ H0.out.1).mono ?_
  rintro e x1 ⟨rfl, hx⟩
  have H1 := Lib.hid (And.intro (H0.out.1.trans (hx.mono H0.out.1.size)) ((hx.block _ (Array.getElem?_eq_some_iff.1 H0.out.2).1).trans H0.out.2))
  clear hx b0 H0 HG
  have b0 := box1 H1.out.2
  cases hg : gC l with
  | false =>
    have HGd := Lib.hid hg
    clear hg
    go_wp2_with fail
    refine bodyPost_ret (v := .tuple #[.slice none 0 0, .string ⟨#[]⟩, .string ⟨#[]⟩, .int .i64 2]) (by simp [results, Tryz.results41, go_sem]) rfl ⟨_, none0, none0, 2, fun _ => 0, [], rfl, .inl ⟨HGd.out, rfl, rfl, rfl, rfl⟩, HEm.out _, H1.out.1⟩
  | true =>
  have HGd := Lib.hid hg
  clear hg
  go_wp2_with fail
  refine (HN.out _ H1.out.1).mono ?_
  rintro e x2 ⟨rfl, hx⟩
  have H2 := Lib.hid (And.intro (H1.out.1.trans (hx.mono H1.out.1.size)) ((hx.block _ (Array.getElem?_eq_some_iff.1 H1.out.2).1).trans H1.out.2))
  clear hx b0 H1 HN
  have b0 := box1 H2.out.2
  generalize hnm : namesP l = nm
  obtain ⟨nt, nr, nc⟩ := nm
  simp only [three]
  have HNM := Lib.hid hnm
  clear hnm
  by_cases hc0 : nc = 0
  case neg =>
    have e1 : (nc != 0) = true := by simpa using hc0
    have HK := Lib.hid (show CheckOut l (fun _ => 0) nt nr nc [] from .inr (.inl ⟨HGd.out, by rw [HNM.out]; exact hc0, rfl, by rw [HNM.out], by rw [HNM.out], by rw [HNM.out]⟩))
    clear hc0
    go_wp2_with fail
    exact bodyPost_ret (v := .tuple #[.slice none 0 0, .string nt, .string nr, .int .i64 nc]) (by simp [results, Tryz.results41, go_sem]) rfl ⟨_, nt, nr, nc, fun _ => 0, [], rfl, HK.out, HEm.out _, H2.out.1⟩
  subst hc0
  go_wp2_with fail
  refine (HI.out _ H2.out.1).mono ?_
  rintro e x3 ⟨u, rfl, hrow, hx⟩
  have H3 := Lib.hid (And.intro (H2.out.1.trans (hx.mono H2.out.1.size)) (And.intro ((hx.block _ (Array.getElem?_eq_some_iff.1 H2.out.2).1).trans H2.out.2) (ItMem.of hrow)))
  obtain ⟨lo, lc, rfl⟩ := own_slice hrow
  have HB2 := Lib.hid H2.out.1.size
  have HOW := Lib.hid (fun k hk => (World.ownsRow.lt hrow k hk).2)
  clear hrow hx b0 H2 HI
  have b0 := box1 H3.out.2.1
  go_wp2_with fail
  refine (HW.out _ H3.out.1).mono ?_
  rintro e x4 ⟨tv, gs, T, rfl, hgs, hrw, hso, hfu, hx⟩
  obtain ⟨to', tc, rfl⟩ := own_slice hrw.own
  have hnl := HC.out.2.2.2
  rw [zr_len] at HOW ⊢
  have H4 := Lib.hid (And.intro (H3.out.1.trans (hx.mono H3.out.1.size)) (And.intro (by have := H3.out.2.2.below hx; rwa [zr_len] at this) hrw))
  have HT := Lib.hid (And.intro hso (And.intro hfu hgs))
  have HCL := Lib.hid (show ∀ i, i < (items l).length → (Rnd (items l).length (edge l) i ↔ 0 < T i i) from fun i hi => rnd_iff hso hfu (by omega) hi)
  have HB3 := Lib.hid H3.out.1.size
  have HLS := Lib.hid (show (∀ i, i < (items l).length → T i i ≤ 0) → ∀ i, i < (items l).length → IsStr (items l).length (edge l) i (strat (items l).length T i) from fun h i hi => strat_is hso hfu ((hso.calm hfu (by omega)).2 fun v hv => h v hv) (by omega) hi)
  have hl3 := H3.out.1.size
  clear hrw hso hfu hgs hx b0 H3 HW
  go_wp2_with fail
  generalize hits : items l = its at *
  have HITS := Lib.hid hits
  clear hits
  go_loopw [33] (fun i wr => ∃ j : Nat, j ≤ its.length ∧ i = .int .i64 j ∧ Hid ((∀ a, a < j → ¬ Rnd its.length (edge l) a) ∧ ItMem x2.heap.size wr (.slice lo its.length lc) its (fun a => if a < j then (strat its.length T a : Int) else 0) ∧ Rws x3.heap.size wr (.slice to' gs.length tc) its.length gs T ∧ Below w.heap.size w wr)) (fun i _ => its.length - (intOf i).toNat)
  case atStart => exact ⟨0, by omega, rfl, Lib.hid ⟨fun a h => absurd h (by omega), by simpa using H4.out.2.1, H4.out.2.2, H4.out.1⟩⟩
  case round =>
    clear H4
    obtain ⟨j, hj, rfl, HJ⟩ := hrel
    by_cases hlt : j < its.length
    · have hjg : j < gs.length := by have := HT.out.2.2; omega
      obtain ⟨gA, gA', cA, iA, xA, lA, yA, zA, -, -, mA⟩ := HJ.out.2.2.1.at hjg hlt HT.out.2.2
      obtain ⟨gI, iI, -, lI, oI, k0, k1, -, -⟩ := HJ.out.2.1.at hlt
      have hcl := HCL.out j hlt
      by_cases p0 : 0 < T j j
      · have HK := Lib.hid (show CheckOut l (fun _ => 0) its[j].1 its[j].2 16 [] from .inr (.inr (.inl ⟨HGd.out, by rw [HNM.out], rfl, rfl, j, its[j], by rw [HITS.out]; exact List.getElem?_eq_getElem hlt, rfl, rfl, by rw [HITS.out]; exact hcl.2 p0, by rw [HITS.out]; exact HJ.out.1⟩)))
        have HB := Lib.hid HJ.out.2.2.2
        have e1 : decide ((0 : Int) < T j j) = true := by simp; omega
        clear hcl p0 HJ
        go_wp2_with fail
        clear e1 xA zA yA iA
        go_quiet (fail)
        go_wp2_with fail
        exact bodyPost_ret (v := .tuple #[.slice none 0 0, .string its[j].1, .string its[j].2, .int .i64 16]) (by simp [results, Tryz.results41, go_sem]) rfl ⟨_, _, _, 16, fun _ => 0, [], rfl, HK.out, HEm.out _, below_drewN HB.out _⟩
      · have e1 : decide ((0 : Int) < T j j) = false := by simp; omega
        have HNR := Lib.hid (show ¬ Rnd its.length (edge l) j from fun h => p0 (hcl.1 h))
        have hfun : (fun a => if a < j then (strat its.length T a : Int) else 0) = (fun a => if a < j then (strat its.length T a : Int) else if a = j then ((sp T j 0 : Nat) : Int) else 0) := by
          funext a
          split
          · rfl
          · split <;> rfl
        have HM := HJ.out.2.1
        rw [hfun] at HM
        have HM2 := Lib.hid (And.intro HM HJ.out.2.2)
        have HPrev := Lib.hid HJ.out.1
        clear hcl p0 hfun HM HJ
        go_wp2_with fail
        clear e1 xA zA yA iA k0 k1 iI
        go_loopw [56] (fun i wr => ∃ k : Nat, k ≤ its.length ∧ i = .int .i64 k ∧ Hid (ItMem x2.heap.size wr (.slice lo its.length lc) its (fun a => if a < j then (strat its.length T a : Int) else if a = j then ((sp T j k : Nat) : Int) else 0) ∧ Rws x3.heap.size wr (.slice to' gs.length tc) its.length gs T ∧ Below w.heap.size w wr)) (fun i _ => its.length - (intOf i).toNat)
        case atStart => exact ⟨0, by omega, rfl, HM2⟩
        case round =>
          clear HM2
          obtain ⟨k, hk, rfl, HK⟩ := hrel
          by_cases hkt : k < its.length
          · obtain ⟨gA, gA', cA, iA, xA, lA, yA, zA, -, rfl, mA⟩ := HK.out.2.1.at hjg hkt HT.out.2.2
            obtain ⟨gI, iI, bI, lI, oI, -, -, k2, fI⟩ := HK.out.1.at hlt
            have k2' : wr.cell? ⟨gI, j * 3 + 2, none⟩ = some (.int .i64 ((sp T j k : Nat) : Int)) := by simpa using k2
            have hz : max ((sp T j k : Nat) : Int) (T j k) = ((sp T j (k + 1) : Nat) : Int) := by rw [sp_more, max_nat]
            have hput := ItMem.put (HK.out.1.below (y := wr.drew) (Below.refl _ _).drew) oI j (((sp T j (k + 1) : Nat) : Int))
            have hfun : (fun a => if a = j then ((sp T j (k + 1) : Nat) : Int) else (fun a => if a < j then (strat its.length T a : Int) else if a = j then ((sp T j k : Nat) : Int) else 0) a) = (fun a => if a < j then (strat its.length T a : Int) else if a = j then ((sp T j (k + 1) : Nat) : Int) else 0) := by
              funext a
              by_cases ha : a = j
              · subst ha; simp
              · simp [ha]
            rw [hfun] at hput
            have htu : Turns (fun b => b = gI) wr.drew (wr.drew.setCell ⟨gI, j * 3 + 2, none⟩ (.int .i64 ((sp T j (k + 1) : Nat) : Int))) := (Turns.refl (fun b => b = gI) wr.drew).setCell (p := ⟨gI, j * 3 + 2, none⟩) rfl _
            have hgx := HOW.out gI oI
            have hrws := (HK.out.2.1.below (y := wr.drew) (Below.refl _ _).drew).turn htu (fun b hb => by omega)
            have hbel := HK.out.2.2.drew.trans (htu.below (B := w.heap.size) (HK.out.2.2.drew.size) (fun b hb => by have := HB2.out; omega))
            have HN := Lib.hid (And.intro hput (And.intro hrws hbel))
            have HFR := Lib.hid (And.intro k2' fI)
            clear hput hfun hrws hbel k2 htu bI lA mA lI oI
            go_wp2_with fail
            go_still_tail 17, (by kernel_rfl)
            obtain ⟨kw, fw⟩ := HFR.out
            have kx : wr.drew.cell? ⟨gI, j * 3 + 2, none⟩ = some (.int .i64 ((sp T j k : Nat) : Int)) := kw
            have fx : wr.drew.frozen? ⟨gI, j * 3 + 2, none⟩ = false := fw
            clear xA zA iA yA
            go_wp2_with fail
            go_roundw
            case rel => exact ⟨k + 1, by omega, by go_num, HN⟩
            case measure => simp [intOf]; omega
          · have hk' : its.length = k := by omega
            subst hk'
            have hfun : (fun a => if a < j then (strat its.length T a : Int) else if a = j then ((sp T j its.length : Nat) : Int) else 0) = (fun a => if a < j + 1 then (strat its.length T a : Int) else 0) := by
              funext a
              by_cases h1 : a < j
              · rw [if_pos h1, if_pos (by omega)]
              · by_cases h2 : a = j
                · subst h2
                  rw [if_neg h1, if_pos rfl, if_pos (by omega), sp_all]
                · rw [if_neg h1, if_neg h2, if_neg (by omega)]
            have hm := HK.out.1
            rw [hfun] at hm
            have HN := Lib.hid (And.intro (show ∀ a, a < j + 1 → ¬ Rnd its.length (edge l) a from fun a ha => by
              by_cases h : a < j
              · exact HPrev.out a h
              · obtain rfl : a = j := by omega
                exact HNR.out) (And.intro hm HK.out.2))
            clear hfun hm HK
            go_wp2_with fail
            go_roundw
            case rel => exact ⟨j + 1, by omega, by go_num, HN⟩
            case measure => simp [intOf]; omega
    · have hj' : its.length = j := by omega
      subst hj'
      have hall := HJ.out.1
      have hcalm : ∀ i, i < its.length → T i i ≤ 0 := fun i hi => by
        have h1 := hall i hi
        have h2 := HCL.out i hi
        by_cases h3 : 0 < T i i
        · exact absurd (h2.2 h3) h1
        · omega
      have HK := Lib.hid (show CheckOut l (fun a => if a < its.length then (strat its.length T a : Int) else 0) none0 none0 0 its from .inr (.inr (.inr ⟨HGd.out, by rw [HNM.out], HITS.out.symm, rfl, rfl, rfl, by rw [HITS.out]; exact hall, by rw [HITS.out]; exact fun i hi => ⟨strat its.length T i, by simp only [if_pos hi], HLS.out hcalm i hi⟩⟩)))
      have HF := Lib.hid (And.intro (HJ.out.2.1.mono (C := w.heap.size) HB2.out) HJ.out.2.2.2)
      clear hall hcalm HJ
      go_wp2_with fail
      exact bodyPost_ret (v := .tuple #[.slice lo its.length lc, .string ⟨#[]⟩, .string ⟨#[]⟩, .int .i64 0]) (by simp [results, Tryz.results41, go_sem]) rfl ⟨_, none0, none0, 0, _, its, rfl, HK.out, HF.out.1, HF.out.2⟩
end Lt
end Go.Proofs.YtopncohhagebbaaGreatDoor

namespace Go.Proofs.YtopncohhagebbaaGreatDoor
open Go.RowKit
namespace Lt
open Tr (Nd none0 size)
open Gr (Al Rl Ty IsCf IsTy IsRl Lies ty_at tTy tCf box1 box2)
open Cn (fewC ShortC all_at gC few_parts few_allow)
open Knot (Turns)

def few9 (l : List Ty) : Bool := l.all (fun t => decide (t.rels.length ≤ 12)) && (fewC l && decide (l.length ≤ 8))
theorem few9_items {l : List Ty} (h : few9 l = true) : (items l).length ≤ 96 := by
  rw [few9, Bool.and_eq_true, Bool.and_eq_true] at h
  have h8 := of_decide_eq_true h.2.2
  have key : ∀ m : List Ty, (∀ t ∈ m, t.rels.length ≤ 12) → (items m).length ≤ 12 * m.length := by
    intro m
    induction m with
    | nil => intro _; exact Nat.zero_le _
    | cons t m ih =>
      intro hm
      have h1 := ih fun x hx => hm x (by simp [hx])
      have h2 := hm t (by simp)
      rw [items] at h1 ⊢
      rw [List.flatMap_cons, List.length_append, itemsT, List.length_map, List.length_cons]
      omega
  have := key l fun t ht => of_decide_eq_true (List.all_eq_true.1 h.1 t ht)
  omega
theorem few9_parts {l : List Ty} (h : few9 l = true) : fewC l = true ∧ Scant l ∧ Slim l ∧ (items l).length ≤ 1000 := by
  have hi := few9_items h
  rw [few9, Bool.and_eq_true, Bool.and_eq_true] at h
  exact ⟨h.2.1, few_allow h.2.1, fun t ht r hr => ((few_parts h.2.1).2.1 t ht).2 r hr, by omega⟩

set_option maxHeartbeats 8000000 in
set_option maxRecDepth 100000 in
theorem few9_any (l : List Ty) (v : Value) (w : World) (h : IsCf w l v) (ha : ∀ t ∈ l, ∀ r ∈ t.rels, r.allow.length ≤ 281474976710656) :
    Calls Tryz.prog 10 #[v] w fun e x => e = .returned (.bool (few9 l)) ∧ Below w.heap.size w x := by
  have HF := Lib.hid (fun x (hb : Below w.heap.size w x) => Cn.few_any l v x (h.below hb) ha)
  obtain ⟨ao, cap, us, rfl, hl⟩ := h
  have h0 := heap_alloc_new w (.cells #[.slice ao l.length cap] tCf)
  have al := Tr.fresh_one w (.cells #[.slice ao l.length cap] tCf)
  have HL := Lib.hid hl
  have H0 := Lib.hid (And.intro al h0)
  have hbig : l.length ≤ 9223372036854775807 := hl.big
  clear hl h0 al ha
  go_enter Tryz.func10, Tryz.ntmps10
  go_upto_region 1 with fail
  generalize w.alloc (.cells #[.slice ao l.length cap] tCf) = X at *
  have b0 := box1 H0.out.2
  go_wp2_with fail
  clear b0
  go_loopw [8] (fun i wr => ∃ j : Nat, j ≤ l.length ∧ i = .int .i64 j ∧ Hid ((l.take j).all (fun t => decide (t.rels.length ≤ 12)) = true) ∧ Below X.heap.size X wr) (fun i _ => l.length - (intOf i).toNat)
  case atStart => exact ⟨0, by omega, rfl, Lib.hid rfl, Below.refl _ _⟩
  case round =>
    obtain ⟨j, hj, rfl, hall, hb⟩ := hrel
    have hbw := H0.out.1.trans (hb.mono H0.out.1.size)
    by_cases hlt : j < l.length
    · obtain ⟨g, q, ro, rc, vs, hix, hg, c0', c1', hla⟩ := ty_at HL.out cap hlt
      have c0 := (hbw.cell (p := ⟨g, q, none⟩) hg).trans c0'
      have c1 := (hbw.cell (p := ⟨g, q + 1, none⟩) hg).trans c1'
      have hat := all_at hlt hall.out
      generalize l[j] = t at *
      have hbig2 : t.rels.length ≤ 9223372036854775807 := hla.big
      have al := Tr.fresh_one wr (.cells #[.string t.name, .slice ro t.rels.length rc] tTy)
      have HB := Lib.hid (And.intro (hb.trans (al.mono hb.size)) (hbw.trans (al.mono hbw.size)))
      have HAT := Lib.hid hat
      clear hg c0' c1' hla hat al hall hb hbw
      by_cases h12 : t.rels.length ≤ 12
      · have HE := Lib.hid (HAT.out.2 (decide_eq_true h12))
        go_wp2_with fail
        go_roundw
        case rel => exact ⟨j + 1, by omega, by go_num, HE, HB.out.1⟩
        case measure => simp [intOf]; omega
      · have HE := Lib.hid (show few9 l = false by rw [few9, HAT.out.1 (decide_eq_false h12), Bool.false_and])
        go_wp2_with fail
        go_ret
        exact ⟨by rw [HE.out]; rfl, HB.out.2⟩
    · have hj' : j = l.length := by omega
      subst hj'
      have ha := hall.out
      rw [List.take_length] at ha
      have hq : few9 l = (fewC l && decide (l.length ≤ 8)) := by rw [few9, ha, Bool.true_and]
      have HQ := Lib.hid hq
      have hk0 := (hb.block _ (Array.getElem?_eq_some_iff.1 H0.out.2).1).trans H0.out.2
      have H1 := Lib.hid (And.intro hbw hk0)
      have b0 := box1 hk0
      clear ha hq hall hb hbw hk0
      have HF2 := Lib.hid (HF.out _ H1.out.1)
      generalize fewC l = f at *
      go_wp2_with fail
      refine HF2.out.mono ?_
      rintro e x ⟨rfl, hx⟩
      have hk1 := (hx.block _ (Array.getElem?_eq_some_iff.1 H1.out.2).1).trans H1.out.2
      have H2 := Lib.hid (H1.out.1.trans (hx.mono H1.out.1.size))
      clear hx b0 HF2 H1 HF
      have b0 := box1 hk1
      clear hk1
      cases f with
      | true =>
        rw [Bool.true_and] at HQ
        go_wp2_with fail
        go_ret
        exact ⟨by rw [HQ.out]; simp; omega, H2.out⟩
      | false =>
        rw [Bool.false_and] at HQ
        go_wp2_with fail
        go_ret
        exact ⟨by rw [HQ.out]; rfl, H2.out⟩

theorem CheckOut.one {l : List Ty} {S S' : Nat → Int} {t t' r r' : ByteArray} {code code' : Int} {its its' : List It} (h : CheckOut l S t r code its) (k : CheckOut l S' t' r' code' its') :
    t = t' ∧ r = r' ∧ code = code' ∧ its = its' ∧ ∀ i, i < its.length → S i = S' i := by
  have key : ∀ (n : Nat) (e : Nat → Nat → Int) (i i' : Nat), Rnd n e i → (∀ j, j < i → ¬ Rnd n e j) → Rnd n e i' → (∀ j, j < i' → ¬ Rnd n e j) → i = i' := fun n e i i' h1 h2 h3 h4 => by
    rcases Nat.lt_trichotomy i i' with h | h | h
    · exact absurd h1 (h4 i h)
    · exact h
    · exact absurd h3 (h2 i' h)
  rcases h with ⟨a1, a2, a3, a4, a5⟩ | ⟨a1, a2, a3, a4, a5, a6⟩ | ⟨a1, a2, a3, a4, i, a, a5, a6, a7, a8, a9⟩ | ⟨a1, a2, a3, a4, a5, a6, a7, a8⟩ <;>
  rcases k with ⟨b1, b2, b3, b4, b5⟩ | ⟨b1, b2, b3, b4, b5, b6⟩ | ⟨b1, b2, b3, b4, i', a', b5, b6, b7, b8, b9⟩ | ⟨b1, b2, b3, b4, b5, b6, b7, b8⟩
  · exact ⟨by rw [a3, b3], by rw [a4, b4], by rw [a5, b5], by rw [a2, b2], fun i hi => by rw [a2] at hi; simp at hi⟩
  · rw [a1] at b1; cases b1
  · rw [a1] at b1; cases b1
  · rw [a1] at b1; cases b1
  · rw [b1] at a1; cases a1
  · exact ⟨by rw [a4, b4], by rw [a5, b5], by rw [a6, b6], by rw [a3, b3], fun i hi => by rw [a3] at hi; simp at hi⟩
  · exact absurd b2 a2
  · exact absurd b2 a2
  · rw [b1] at a1; cases a1
  · exact absurd a2 b2
  · obtain rfl := key _ _ _ _ a8 a9 b8 b9
    rw [a5] at b5
    obtain rfl := Option.some.inj b5
    exact ⟨by rw [a6, b6], by rw [a7, b7], by rw [a4, b4], by rw [a3, b3], fun i hi => by rw [a3] at hi; simp at hi⟩
  · have hi := (List.getElem?_eq_some_iff.1 a5).1
    exact absurd a8 (b7 i hi)
  · rw [b1] at a1; cases a1
  · exact absurd a2 b2
  · have hi := (List.getElem?_eq_some_iff.1 b5).1
    exact absurd b8 (a7 i' hi)
  · refine ⟨by rw [a5, b5], by rw [a6, b6], by rw [a4, b4], by rw [a3, b3], fun i hi => ?_⟩
    rw [a3] at hi
    obtain ⟨s, hs1, hs2⟩ := a8 i hi
    obtain ⟨s', hs3, hs4⟩ := b8 i hi
    rw [hs1, hs3, hs2.unique hs4]
end Lt
end Go.Proofs.YtopncohhagebbaaGreatDoor

namespace Go.Proofs.YtopncohhagebbaaGreatDoor
open Go.RowKit
namespace Lt
open Tr (Nd none0 size)
open Gr (Al Rl Ty IsCf tCf box1 box2)
open Cn (fewC ShortC)
open Knot (Turns)

abbrev tPi : TypeId := 34
theorem elemPi : Tryz.prog.underlying 27 = some (.slice (Tryz.prog.elem 27)) := by kernel_rfl
theorem sizePi : ∀ w, (sizeOf (Tryz.prog.elem 27)).run Tryz.prog w = .ok 3 w := fun w => by kernel_rfl
def PiMem (B : Nat) (x : World) (v : Value) (its : List It) (S : Nat → Int) (k : Nat) : Prop :=
  ∃ ao cap, v = .slice ao its.length cap ∧ (its ≠ [] → ∃ g cur, ao = some ⟨g, 0, none⟩ ∧ B ≤ g ∧ x.heap[g]? = some (.cells cur tPi (0, 0)) ∧
    ∀ j (h : j < its.length), k ≤ j → cur[j * 3]? = some (.string its[j].1) ∧ cur[j * 3 + 1]? = some (.string its[j].2) ∧ cur[j * 3 + 2]? = some (.int .i64 (S j)))
def strike (x : World) (g q : Nat) : World := ((x.setCell ⟨g, q, none⟩ (.string ⟨#[]⟩)).setCell ⟨g, q + 1, none⟩ (.string ⟨#[]⟩)).setCell ⟨g, q + 2, none⟩ (.int .i64 0)
theorem strike_turns (x : World) (g q : Nat) : Turns (fun b => b = g) x (strike x g q) :=
  ((Turns.refl (fun b => b = g) x).setCell (p := ⟨g, q, none⟩) rfl _).setCell (p := ⟨g, q + 1, none⟩) rfl _ |>.setCell (p := ⟨g, q + 2, none⟩) rfl _
section
variable {B : Nat} {x y : World} {v : Value} {its : List It} {S : Nat → Int} {k : Nat}
theorem PiMem.turn (h : PiMem B x v its S k) {F : Nat → Prop} (ht : Turns F x y) (hF : ∀ k, F k → ¬ v.ownBlock = some k) : PiMem B y v its S k := by
  obtain ⟨ao, cap, rfl, hk⟩ := h
  refine ⟨ao, cap, rfl, fun hne => ?_⟩
  obtain ⟨g, cur, rfl, hb, hg, hc⟩ := hk hne
  exact ⟨g, cur, rfl, hb, ht.heap hg (fun hf => hF g hf rfl), hc⟩
theorem PiMem.below (h : PiMem B x v its S k) (hb : Below x.heap.size x y) : PiMem B y v its S k := h.turn (F := fun _ => False) (Turns.of_below hb) fun _ h => h.elim
theorem PiMem.lt (h : PiMem B x v its S k) (hne : its ≠ []) : ∃ g, v.ownBlock = some g ∧ B ≤ g ∧ g < x.heap.size := by
  obtain ⟨ao, cap, rfl, hk⟩ := h
  obtain ⟨g, cur, rfl, hb, hg, hc⟩ := hk hne
  exact ⟨g, rfl, hb, (Array.getElem?_eq_some_iff.1 hg).1⟩
theorem PiMem.at (h : PiMem B x v its S k) {j : Nat} (hj : j < its.length) (hkj : k ≤ j) :
    ∃ g, (∀ W, (Instr.indexAt 27 v (.int .i64 (j : Int))).run Tryz.prog W = .ok (.pointer (some ⟨g, j * 3, none⟩)) W) ∧ B ≤ g ∧ g < x.heap.size ∧ v.ownBlock = some g ∧
      (x.cell? ⟨g, j * 3, none⟩ = some (.string its[j].1) ∧ x.cell? ⟨g, j * 3 + 1, none⟩ = some (.string its[j].2) ∧ x.cell? ⟨g, j * 3 + 2, none⟩ = some (.int .i64 (S j))) ∧
      x.frozen? ⟨g, j * 3, none⟩ = false ∧ x.frozen? ⟨g, j * 3 + 1, none⟩ = false ∧ x.frozen? ⟨g, j * 3 + 2, none⟩ = false := by
  obtain ⟨ao, cap, rfl, hk⟩ := h
  obtain ⟨g, cur, rfl, hb, hg, hc⟩ := hk (fun e => by rw [e] at hj; simp at hj)
  obtain ⟨c0, c1, c2⟩ := hc j hj hkj
  refine ⟨g, fun W => ?_, hb, (Array.getElem?_eq_some_iff.1 hg).1, rfl, ⟨by rw [Lib.cell_of_heap hg]; exact c0, by rw [Lib.cell_of_heap hg]; exact c1, by rw [Lib.cell_of_heap hg]; exact c2⟩, Lib.frozen_of_heap hg _, Lib.frozen_of_heap hg _, Lib.frozen_of_heap hg _⟩
  rw [run_indexAt_slice W _ _ _ _ _ _ elemPi, if_pos ⟨by omega, by omega⟩, sizePi]
  have e : ((j : Int)).toNat = j := by omega
  simp only [Result.andThen_ok, e, Addr.add_lit, Nat.zero_add]
theorem PiMem.mono (h : PiMem B x v its S k) {C : Nat} (hC : C ≤ B) : PiMem C x v its S k := by
  obtain ⟨ao, cap, hv, hk⟩ := h
  refine ⟨ao, cap, hv, fun hne => ?_⟩
  obtain ⟨g, cur, hg, hb, r⟩ := hk hne
  exact ⟨g, cur, hg, Nat.le_trans hC hb, r⟩
theorem PiMem.strike (h : PiMem B x v its S k) {g : Nat} (hg : v.ownBlock = some g) : PiMem B (strike x g (k * 3)) v its S (k + 1) := by
  obtain ⟨ao, cap, rfl, hk⟩ := h
  refine ⟨ao, cap, rfl, fun hne => ?_⟩
  obtain ⟨g', cur, rfl, hb, hh, hc⟩ := hk hne
  obtain rfl : g' = g := by simpa [Value.ownBlock] using hg
  refine ⟨g', _, rfl, hb, Lib.heap_setCell_same (i := k * 3 + 2) (Lib.heap_setCell_same (i := k * 3 + 1) (Lib.heap_setCell_same (i := k * 3) hh _) _) _, fun j hj hkj => ?_⟩
  have h1 := hc j hj (by omega)
  simp only [Array.getElem?_setIfInBounds]
  refine ⟨?_, ?_, ?_⟩
  · rw [if_neg (by omega), if_neg (by omega), if_neg (by omega)]; exact h1.1
  · rw [if_neg (by omega), if_neg (by omega), if_neg (by omega)]; exact h1.2.1
  · rw [if_neg (by omega), if_neg (by omega), if_neg (by omega)]; exact h1.2.2
end
theorem CheckOut.few {l : List Ty} {S : Nat → Int} {t r : ByteArray} {code : Int} {its : List It} (h : CheckOut l S t r code its) (hl : (items l).length ≤ 1000) : its.length ≤ 1000 := by
  rcases h with ⟨-, h, -⟩ | ⟨-, -, h, -⟩ | ⟨-, -, h, -⟩ | ⟨-, -, h, -⟩ <;> rw [h] <;> first | exact hl | exact Nat.zero_le _
def CkPost (l : List Ty) (w : World) (e : Ending) (y : World) : Prop :=
  ∃ u t r code S its, e = .returned (.tuple #[u, .agg #[.string t, .string r], .int .i64 code]) ∧ CheckOut l S t r code its ∧ PiMem w.heap.size y u its S 0 ∧ Below w.heap.size w y
def CheckOk : Prop := ∀ (l : List Ty) (v : Value) (w : World), IsCf w l v → ShortC l → Scant l → Slim l → (items l).length ≤ 1000 → Calls Tryz.prog 11 #[v] w (CkPost l w)

theorem spot_ne (t r : ByteArray) (W : World) : (binOp .neq 29 (.agg #[.string t, .string r]) (.agg #[.string t, .string r])).run Tryz.prog W = .ok (.bool false) W := by go_simp
theorem item_ne (a b : ByteArray) (s : Int) (W : World) : (binOp .neq tIt (.agg #[.string a, .string b, .int .i64 s]) (.agg #[.string a, .string b, .int .i64 s])).run Tryz.prog W = .ok (.bool false) W := by go_simp
end Lt
namespace LawL9Checks
open Gr (Al Rl Ty IsCf tCf box1 box2)
open Cn (ShortC)
open Knot (Turns)
open Lt
open Who (wp_region_class quiet_of)

end LawL9Checks
end Go.Proofs.YtopncohhagebbaaGreatDoor
