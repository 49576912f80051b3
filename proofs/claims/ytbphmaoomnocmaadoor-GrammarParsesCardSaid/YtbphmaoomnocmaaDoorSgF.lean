/-
  Layer 6 (sigil): the document's among, place, part and text.
-/
import Derived.Test.YtbphmaoomnocmaaDoorMgLex
import Derived.Test.YtbphmaoomnocmaaDoorRunes
namespace Go.Proofs.YtbphmaoomnocmaaDoor
open Go.RowKit
namespace Sg
open Tr (IsElem own_below own_slice wp_rows walk_rows)
open Knot (Turns NewRow)

/-- Numbers in memory. -/
def IsL (x : World) (g o : Nat) (q : List Nat) : Prop := g < x.heap.size ∧ ∀ j r, q[j]? = some r → x.cell? ⟨g, o + j, none⟩ = some (.int .i64 (r : Nat))
theorem IsL.on {x y : World} {g o : Nat} {q : List Nat} (h : IsL x g o q) (hb : Below x.heap.size x y) : IsL y g o q :=
  ⟨by have := hb.size; have := h.1; omega, fun j r hj => (hb.cell (p := ⟨g, o + j, none⟩) h.1).trans (h.2 j r hj)⟩
theorem IsL.at {x : World} {g o : Nat} {q : List Nat} (h : IsL x g o q) {j : Nat} (hj : j < q.length) : x.cell? ⟨g, o + j, none⟩ = some (.int .i64 (q[j] : Nat)) := h.2 j _ (List.getElem?_eq_getElem hj)
theorem IsL.part {x : World} {g o : Nat} {q : List Nat} (h : IsL x g o q) (a n : Nat) : IsL x g (o + a) ((q.drop a).take n) :=
  ⟨h.1, fun j r hj => by
    rw [List.getElem?_take] at hj
    split at hj
    · rw [List.getElem?_drop] at hj
      rw [Nat.add_assoc]; exact h.2 _ _ hj
    · cases hj⟩

/-- Is a number among some? -/
def has (l : List Nat) (n : Nat) : Bool := l.contains n
/-- The first bytes of runes below 128. -/
def bys (l : List Nat) (k : Nat) : List UInt8 := (l.take k).map Nat.toUInt8
theorem bys_len {l : List Nat} {k : Nat} (h : k ≤ l.length) : (bys l k).length = k := by rw [bys, List.length_map, List.length_take]; omega
theorem bys_all (l : List Nat) : bys l l.length = l.map Nat.toUInt8 := by rw [bys, List.take_length]

set_option maxHeartbeats 1000000 in
theorem among_any (n : Nat) (l : List Nat) (g o cap : Nat) (w : World) (h : IsL w g o l) (hl : l.length ≤ 100000000) :
    Calls Tryd.prog 44 #[.int .i64 (n : Nat), .slice (some ⟨g, o, none⟩) l.length cap] w fun e w' => e = .returned (.bool (has l n)) ∧ w = w' := by
  have H := Lib.hid h
  clear h
  go_enter Tryd.func44, Tryd.ntmps44
  go_wp2
  go_loop [8] (fun i => ∃ k : Nat, k ≤ l.length ∧ i = .int .i64 k ∧ Hid (has l n = has (l.drop k) n)) (fun i => l.length - (intOf i).toNat)
  case atStart => exact ⟨0, by omega, rfl, Lib.hid rfl⟩
  case round =>
    obtain ⟨k, hk, rfl, HC⟩ := hrel
    by_cases hlt : k < l.length
    · have hc := H.out.at hlt
      have hd := HC.out
      rw [List.drop_eq_getElem_cons hlt] at hd
      generalize l[k] = c at *
      by_cases hcn : c = n
      · subst hcn
        have HT := Lib.hid (show has l c = true by rw [hd]; simp [has])
        clear hd HC
        go_wp2
        go_ret
        exact ⟨by rw [HT.out]; rfl, rfl⟩
      · have hne : ((c : Int) == (n : Int)) = false := by simp; omega
        have HT := Lib.hid (show has l n = has (l.drop (k + 1)) n by
          rw [hd, has, List.contains_cons]
          have : (n == c) = false := by simp; omega
          rw [this]; rfl)
        clear hd HC hcn
        go_wp2
        go_round
        case rel => exact ⟨k + 1, by omega, by go_num, HT⟩
        case measure => simp [intOf]; omega
    · have HT := Lib.hid (show has l n = false by rw [HC.out, List.drop_eq_nil_of_le (by omega)]; rfl)
      clear HC
      go_wp2
      go_ret
      exact ⟨by rw [HT.out]; rfl, rfl⟩

set_option maxHeartbeats 2000000 in
theorem place_any (q : List Nat) (g cap at' : Nat) (w : World) (h : IsL w g 0 q) (hl : q.length ≤ 100000000) (ha : at' ≤ q.length) :
    Calls Tryd.prog 45 #[.slice (some ⟨g, 0, none⟩) q.length cap, .int .i64 (at' : Nat)] w fun e w' => e = .returned (.tuple #[.int .i64 ((behinds (1, 1) (q.take at')).1 : Nat), .int .i64 ((behinds (1, 1) (q.take at')).2 : Nat)]) ∧ w = w' := by
  have H := Lib.hid h
  clear h
  go_enter Tryd.func45, Tryd.ntmps45
  go_wp2
  go_loop [6, 7, 8] (fun a b i => ∃ (k : Nat) (p : Nat × Nat), k ≤ at' ∧ i = .int .i64 k ∧ a = .int .i64 (p.1 : Nat) ∧ b = .int .i64 (p.2 : Nat) ∧ p.1 ≤ k + 1 ∧ p.2 ≤ k + 1 ∧ Hid (behinds (1, 1) (q.take k) = p)) (fun _ _ i => at' - (intOf i).toNat)
  case atStart => exact ⟨0, (1, 1), by omega, rfl, rfl, rfl, by simp, by simp, Lib.hid rfl⟩
  case round =>
    obtain ⟨k, p, hk, rfl, rfl, rfl, hp1, hp2, HP⟩ := hrel
    by_cases hlt : k < at'
    · have hq : k < q.length := by omega
      have hc := H.out.at hq
      rw [Nat.zero_add] at hc
      have hb := behind_le p q[k]
      have HN := Lib.hid (show behinds (1, 1) (q.take (k + 1)) = behind p q[k] by
        rw [List.take_succ_eq_append_getElem hq, behinds_append, HP.out]; rfl)
      have hbe : behind p q[k] = if q[k] = 10 then (p.1 + 1, 1) else (p.1, p.2 + 1) := rfl
      generalize q[k] = c at *
      by_cases h10 : c = 10
      · subst h10
        rw [if_pos rfl] at hbe
        have HB := Lib.hid hbe
        clear hbe hb
        go_wp2
        go_round
        case rel => exact ⟨k + 1, (p.1 + 1, 1), by omega, by go_num, by go_num, rfl, by simp; omega, by simp, Lib.hid (by rw [HN.out, HB.out])⟩
        case measure => simp [intOf]; omega
      · have hne : ((c : Int) == 10) = false := by simp; omega
        rw [if_neg h10] at hbe
        have HB := Lib.hid hbe
        clear hbe hb h10
        go_wp2
        go_round
        case rel => exact ⟨k + 1, (p.1, p.2 + 1), by omega, by go_num, rfl, by go_num, by simp; omega, by simp; omega, Lib.hid (by rw [HN.out, HB.out])⟩
        case measure => simp [intOf]; omega
    · obtain rfl : k = at' := by omega
      clear hlt
      go_wp2
      go_ret2
      exact ⟨by rw [HP.out]; rfl, rfl⟩

set_option maxHeartbeats 2000000 in
theorem part_first (r : Nat) (hr : r ≤ 1114111) (w : World) :
    Calls Tryd.prog 46 #[.int .i64 (r : Nat), .bool true] w fun e w' => e = .returned (.bool (letter r)) ∧ w = w' := by
  by_cases h1 : 97 ≤ r
  · by_cases h2 : r ≤ 122
    · have D := Lib.hid (show letter r = true by simp [letter]; omega)
      go_enter Tryd.func46, Tryd.ntmps46
      go_wp2
      go_ret
      exact ⟨by rw [D.out]; simp; try omega, rfl⟩
    · have D := Lib.hid (show letter r = false by simp [letter]; omega)
      go_enter Tryd.func46, Tryd.ntmps46
      go_wp2
      go_ret
      exact ⟨by rw [D.out]; simp; try omega, rfl⟩
  · have D := Lib.hid (show letter r = false by simp [letter]; omega)
    go_enter Tryd.func46, Tryd.ntmps46
    go_wp2
    go_ret
    exact ⟨by rw [D.out]; simp; try omega, rfl⟩
set_option maxHeartbeats 2000000 in
theorem part_next (r : Nat) (hr : r ≤ 1114111) (w : World) :
    Calls Tryd.prog 46 #[.int .i64 (r : Nat), .bool false] w fun e w' => e = .returned (.bool (inWord r)) ∧ w = w' := by
  have key : (97 ≤ r ∧ r ≤ 122) ∨ r < 48 ∨ (48 ≤ r ∧ r ≤ 57) ∨ (57 < r ∧ r < 95) ∨ r = 95 ∨ r = 96 ∨ 122 < r := by omega
  rcases key with h | h | h | h | h | h | h
  · obtain ⟨h1, h2⟩ := h
    have D := Lib.hid (show inWord r = true by simp [inWord]; omega)
    go_enter Tryd.func46, Tryd.ntmps46
    go_wp2
    go_ret
    exact ⟨by rw [D.out]; simp; try omega, rfl⟩
  · have D := Lib.hid (show inWord r = false by simp [inWord]; omega)
    have b0 : ((r : Int) == 95) = false := by simp; omega
    go_enter Tryd.func46, Tryd.ntmps46
    go_wp2
    go_ret
    exact ⟨by rw [D.out]; simp; try omega, rfl⟩
  · obtain ⟨h1, h2⟩ := h
    have D := Lib.hid (show inWord r = true by simp [inWord]; omega)
    go_enter Tryd.func46, Tryd.ntmps46
    go_wp2
    go_ret
    exact ⟨by rw [D.out]; simp; try omega, rfl⟩
  · obtain ⟨h1, h2⟩ := h
    have D := Lib.hid (show inWord r = false by simp [inWord]; omega)
    have b0 : ((r : Int) == 95) = false := by simp; omega
    go_enter Tryd.func46, Tryd.ntmps46
    go_wp2
    go_ret
    exact ⟨by rw [D.out]; simp; try omega, rfl⟩
  · subst h
    go_enter Tryd.func46, Tryd.ntmps46
    go_wp2
    go_ret
    exact ⟨rfl, rfl⟩
  · subst h
    go_enter Tryd.func46, Tryd.ntmps46
    go_wp2
    go_ret
    exact ⟨rfl, rfl⟩
  · have D := Lib.hid (show inWord r = false by simp [inWord]; omega)
    have b0 : ((r : Int) == 95) = false := by simp; omega
    go_enter Tryd.func46, Tryd.ntmps46
    go_wp2
    go_ret
    exact ⟨by rw [D.out]; simp; try omega, rfl⟩

set_option maxRecDepth 100000 in
theorem bytes_elem : ∃ i z b, IsElem Tryd.prog 77 5 i z 1 b ∧ b ≤ 100 := by
  refine ⟨_, _, _, ⟨by kernel_rfl, rfl, rfl, by kernel_rfl, rfl, by kernel_rfl, by omega⟩, ?_⟩
  exact of_decide_eq_true (by kernel_rfl)
theorem nil_string (W : World) : (convert 77 9 (.slice none 0 0)).run Tryd.prog W = .ok (.string ⟨#[]⟩) W := by kernel_rfl
/-- A row of bytes of one's own, as a string. -/
theorem row_string {w : World} {B : Nat} {v : Value} {l : List UInt8} (h : w.ownsRow B 5 1 v l.length (Lib.byteCells l)) :
    (convert 77 9 v).run Tryd.prog w = .ok (.string ⟨l.toArray⟩) w := by
  rcases h.2 with ⟨rfl, h0⟩ | ⟨g, cap, cur, rfl, hr⟩
  · have : l = [] := List.eq_nil_of_length_eq_zero h0
    subst this
    exact nil_string w
  · rw [run_convert_bytes_arg w 77 5 Tryd.underlying77 Tryd.underlying5 g 0 l.length cap (l.map fun b => (b.toNat : Int)) (by simp) ?_ 9 Tryd.underlying9]
    · have : strOfNums (l.map fun b => (b.toNat : Int)) = ⟨l.toArray⟩ := by
        rw [strOfNums]; simp [Function.comp_def]
      rw [this]
    · intro i hi
      rw [Nat.zero_add, h.cellAt i (by omega)]
      simp [Lib.byteCells, List.getD_eq_getElem?_getD, hi]

theorem byte_nat {r : Nat} (h : r < 128) : (r.toUInt8.toNat : Int) = (r : Int) := by
  have : r.toUInt8.toNat = r := by simp; omega
  rw [this]
set_option maxHeartbeats 4000000 in
set_option maxRecDepth 100000 in
theorem text_any (l : List Nat) (g o cap : Nat) (w : World) (h : IsL w g o l) (hl : l.length ≤ 1000000) (hlow : ∀ r ∈ l, r < 128) :
    Calls Tryd.prog 47 #[.slice (some ⟨g, o, none⟩) l.length cap] w fun e w' => e = .returned (.string (txt l)) ∧ Below w.heap.size w w' := by
  have H := Lib.hid h
  have HL := Lib.hid hlow
  have hg := h.1
  clear h hlow
  go_enter Tryd.func47, Tryd.ntmps47
  go_wp2
  go_loopw [3, 7] (fun v i wr => ∃ k : Nat, k ≤ l.length ∧ i = .int .i64 k ∧ Hid (wr.ownsRow w.heap.size 5 1 v (bys l k).length (Lib.byteCells (bys l k)) ∧ Below w.heap.size w wr)) (fun _ i _ => l.length - (intOf i).toNat)
  case atStart => exact ⟨0, by omega, rfl, Lib.hid ⟨World.ownsRow_nil _ _ _ _, Below.refl _ _⟩⟩
  case round =>
    obtain ⟨k, hk, rfl, HR⟩ := hrel
    by_cases hlt : k < l.length
    · have hc := (H.out.on HR.out.2).at hlt
      have hr := HL.out l[k] (List.getElem_mem hlt)
      have htk := List.take_succ_eq_append_getElem hlt
      have hz := HR.out.2.size
      have hown := HR.out.1
      obtain ⟨ro, rc, rfl⟩ := own_slice hown
      generalize l[k] = c at *
      have al : Below wr.heap.size wr (wr.alloc (.cells #[.int .u8 (c : Nat)] 5)) := (Below.refl _ _).alloc (Nat.le_refl _) _
      have HO := Lib.hid (And.intro (own_below hown al) (HR.out.2.trans (al.mono hz)))
      have HT := Lib.hid htk
      have hcn : ∀ j u, [Value.int .u8 (c : Nat)][j]? = some u → (wr.alloc (.cells #[.int .u8 (c : Nat)] 5)).cell? ((⟨wr.heap.size, 0, none⟩ : Addr).add j) = some u := by
        intro j u hj
        rw [Tr.addp, Nat.zero_add, Lib.cell_of_heap (heap_alloc_new wr _)]
        simpa using hj
      have HN := Lib.hid hcn
      have hlen := bys_len hk
      have hlen2 := bys_len (show k + 1 ≤ l.length by omega)
      obtain ⟨ti, tz, tb, T, hT⟩ := bytes_elem
      have HE := Lib.hid (And.intro T hT)
      clear hown htk hcn T hT al HR
      have hk1 : (bys l k).length ≤ 1000000 := by omega
      have HK := Lib.hid hlen
      clear hlen
      go_wp2_with (at_builtin; refine walk_rows HE.out.1 rfl _ _ rfl rfl rfl HO.out.1 (by simp; omega) (m := 1) rfl HN.out (by intro u hu; simp at hu; subst hu; rfl) (by omega) (Nat.le_trans (Nat.mul_le_mul_left _ HE.out.2) (by omega)) ?_)
      intro v2 z o2 g2 n2
      have hbz : Below w.heap.size w z := HO.out.2.grown g2 (by simp; omega) fun k hk => (HO.out.1.lt k hk).1
      have HZ : Hid (z.ownsRow w.heap.size 5 1 v2 (bys l (k + 1)).length (Lib.byteCells (bys l (k + 1))) ∧ Below w.heap.size w z) := by
        refine Lib.hid ⟨?_, hbz⟩
        have : Lib.byteCells (bys l (k + 1)) = Lib.byteCells (bys l k) ++ [Value.int .u8 (c : Nat)] := by
          rw [bys, HT.out, List.map_append, ← bys]
          simp [Lib.byteCells]; omega
        rw [this, hlen2]
        have h3 := o2
        rw [HK.out] at h3
        exact h3
      clear o2 g2 n2 hbz HO
      go_wp2_with fail
      go_roundw
      case rel => exact ⟨k + 1, by omega, by go_num, HZ⟩
      case measure => simp [intOf]; omega
    · obtain rfl : k = l.length := by omega
      have hst := row_string HR.out.1
      rw [bys_all] at hst
      have HB := Lib.hid HR.out.2
      clear HR
      go_wp2_with fail
      go_ret
      exact ⟨rfl, HB.out⟩
end Sg
end Go.Proofs.YtbphmaoomnocmaaDoor
