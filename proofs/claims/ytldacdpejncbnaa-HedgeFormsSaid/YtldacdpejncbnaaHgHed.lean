/-
  Layer 15: a hedge in memory, and what each of its calls does.
-/
import Derived.Test.YtldacdpejncbnaaHgWo
import Derived.Test.YtldacdpejncbnaaHgFirst
namespace Go.Proofs.Ytldacdpejncbnaa
open Go.RowKit
namespace Hg
open Knot (Turns NewRow)
open Tr (IsElem own_turn own_below own_slice own_open)

theorem own_base {w : World} {B C n c : Nat} {e : TypeId} {v : Value} {xs : List Value} (h : w.ownsRow B e c v n xs) (hC : C ≤ B) : w.ownsRow C e c v n xs := by
  refine ⟨h.1, ?_⟩
  rcases h.2 with h0 | ⟨g, cap, cur, rfl, hb, r⟩
  · exact .inl h0
  · exact .inr ⟨g, cap, cur, rfl, by omega, r⟩
/-- A hedge: a box that leads to its tree. -/
structure IsH (w : World) (p : Nat) (t : T) : Prop where
  box : w.heap[p]? = some (.cells #[.pointer (loc t)] tHd (0, 0))
  tree : IsT w t
  apart : (p :: t.blks).Nodup
  rises : Rises t.ents
  fit : Fit t
  few : t.size ≤ 40000
section
variable {w x : World} {p : Nat} {t : T} {F : Nat → Prop}
theorem IsH.turn (h : IsH w p t) (ht : Turns F w x) (hF : ∀ k ∈ p :: t.blks, ¬ F k) : IsH x p t :=
  ⟨ht.heap h.box (hF p List.mem_cons_self), h.tree.turn ht fun k hk => hF k (List.mem_cons_of_mem _ hk), h.apart, h.rises, h.fit, h.few⟩
theorem IsH.below (h : IsH w p t) (hb : Below w.heap.size w x) : IsH x p t := h.turn (F := fun _ => False) (Turns.of_below hb) fun _ _ h => h
theorem IsH.cell (h : IsH w p t) : w.cell? ⟨p, 0, none⟩ = some (.pointer (loc t)) := by rw [Lib.cell_of_heap h.box]; rfl
theorem IsH.free (h : IsH w p t) : w.frozen? ⟨p, 0, none⟩ = false := Lib.frozen_of_heap h.box 0
theorem IsH.lt (h : IsH w p t) : ∀ k ∈ p :: t.blks, k < w.heap.size := fun k hk => by
  rcases List.mem_cons.1 hk with rfl | hk
  · exact lt_of h.box
  · exact h.tree.lt k hk
end
set_option maxHeartbeats 4000000 in
set_option maxRecDepth 100000 in
theorem first_any {w : World} {p : Nat} {t : T} (h : IsH w p t) (q : ByteArray) (n : Int) {g : FuncId} {capG : Array Value} {bel : ByteArray → Bool} (hE : ∀ args x, (callFunc g args).run Try.prog x = .ok (.enter g args) x)
    (hB : ∀ key y, Below w.heap.size w y → Calls Try.prog g (#[.string key] ++ capG) y fun e y' => e = .returned (.bool (bel key)) ∧ y = y') :
    Calls Try.prog 29 #[.pointer (some ⟨p, 0, none⟩), .string q, .int .i64 n, fnv g capG] w fun e y => ∃ v, e = .returned v ∧ y.ownsRow w.heap.size tEn 2 v (some_ n bel (upon t.ents q)).length (cellsE (some_ n bel (upon t.ents q))) ∧ Below w.heap.size w y := by
  obtain ⟨W, hW⟩ : ∃ W, W = ((w.alloc (.cells #[.int .i64 n] tIn)).alloc (.cells #[fnv g capG] tBl)).alloc (.cells #[.slice none 0 0] tEs) := ⟨_, rfl⟩
  have hb : Below w.heap.size w W := by rw [hW]; exact (((Below.refl _ _).alloc (Nat.le_refl _) _).alloc (by simp) _).alloc (by simp; omega) _
  have hF : Fs w n (fnv g capG) [] W := by
    have i1 := heap_alloc_new w (.cells #[.int .i64 n] tIn)
    have i2 := heap_alloc_new (w.alloc (.cells #[.int .i64 n] tIn)) (.cells #[fnv g capG] tBl)
    have i3 := heap_alloc_new ((w.alloc (.cells #[.int .i64 n] tIn)).alloc (.cells #[fnv g capG] tBl)) (.cells #[.slice none 0 0] tEs)
    have b1 : ∀ (x : World) o, Below x.heap.size x (x.alloc o) := fun x o => (Below.refl _ _).alloc (Nat.le_refl _) o
    have s1 : (w.alloc (.cells #[.int .i64 n] tIn)).heap.size = w.heap.size + 1 := by simp
    have s2 : ((w.alloc (.cells #[.int .i64 n] tIn)).alloc (.cells #[fnv g capG] tBl)).heap.size = w.heap.size + 1 + 1 := by simp
    rw [s1] at i2
    rw [s2] at i3
    refine ⟨hb, ?_, ?_, .slice none 0 0, ?_, World.ownsRow_nil _ _ _ _⟩
    · rw [hW]; exact ((b1 _ _).block _ (by rw [s2]; omega)).trans (((b1 _ _).block _ (by rw [s1]; omega)).trans i1)
    · rw [hW]; exact ((b1 _ _).block _ (by rw [s2]; omega)).trans i2
    · rw [hW]; exact i3
  have hx := h.below hb
  have HV := Lib.hid (from_any (closure_any hE hB) t q [] W (fun acc x hj => h.tree.below hj.below) h.fit hF (by have := h.few; simp only [List.length_nil]; omega))
  have HS := Lib.hid (from_some n bel t q h.rises)
  have HW := Lib.hid hW
  have c0 := hx.cell
  have HX := Lib.hid hx
  clear h hW hb hF hx hE hB
  go_enter Try.func29, Try.ntmps29
  go_upto_region 2 with fail
  rw [← HW.out]
  clear HW
  go_wp2_with fail
  refine HV.out.mono ?_
  rintro e y ⟨rfl, hy⟩
  rw [HS.out] at hy
  obtain ⟨v, r1, r2⟩ := hy.row
  have d0 : y.cell? ⟨w.heap.size + 1 + 1, 0, none⟩ = some v := by rw [Lib.cell_of_heap r1]; rfl
  have HY := Lib.hid (And.intro r2 hy.below)
  clear hy r1 r2
  go_wp2_with fail
  go_ret
  exact ⟨v, rfl, HY.out.1, HY.out.2⟩
set_option maxHeartbeats 4000000 in
set_option maxRecDepth 100000 in
theorem from_row {w : World} {p : Nat} {t : T} (h : IsH w p t) (q : ByteArray) (n : Int) : Calls Try.prog 15 #[.pointer (some ⟨p, 0, none⟩), .string q, .int .i64 n] w fun e y =>
    ∃ v, e = .returned v ∧ y.ownsRow w.heap.size tEn 2 v ((upon t.ents q).take n.toNat).length (cellsE ((upon t.ents q).take n.toNat)) ∧ Below w.heap.size w y := by
  have hc := first_any h q n (g := 30) (capG := #[]) (bel := fun _ => true) (fun args x => by kernel_rfl) (fun key y _ => by
    show Calls Try.prog 30 #[.string key] y _
    go_enter Try.func30, Try.ntmps30
    go_wp2_with fail
    go_ret
    exact ⟨rfl, rfl⟩)
  rw [some_, all_while] at hc
  have HC := Lib.hid hc
  clear hc h
  go_enter Try.func15, Try.ntmps15
  go_wp2_with fail
  refine HC.out.mono ?_
  rintro e y ⟨v, rfl, h1, h2⟩
  have HY := Lib.hid (And.intro h1 h2)
  clear h1 h2
  go_wp2_with fail
  go_ret
  exact ⟨v, rfl, HY.out.1, HY.out.2⟩
set_option maxHeartbeats 4000000 in
set_option maxRecDepth 100000 in
theorem under_row {w : World} {p : Nat} {t : T} (h : IsH w p t) (q : ByteArray) (n : Int) : Calls Try.prog 21 #[.pointer (some ⟨p, 0, none⟩), .string q, .int .i64 n] w fun e y =>
    ∃ v, e = .returned v ∧ y.ownsRow w.heap.size tEn 2 v (((upon t.ents q).filter fun e => begins q e.1).take n.toNat).length (cellsE (((upon t.ents q).filter fun e => begins q e.1).take n.toNat)) ∧ Below w.heap.size w y := by
  obtain ⟨W, hW⟩ : ∃ W, W = w.alloc (.cells #[.string q] 9) := ⟨_, rfl⟩
  have hb : Below w.heap.size w W := by rw [hW]; exact (Below.refl _ _).alloc (Nat.le_refl _) _
  have hn := heap_alloc_new w (.cells #[.string q] 9)
  rw [← hW] at hn
  have hc := first_any (h.below hb) q n (g := 34) (capG := #[.pointer (some ⟨w.heap.size, 0, none⟩)]) (bel := begins q) (fun args x => by kernel_rfl) (fun key y hy => by
    show Calls Try.prog 34 #[.string key, .pointer (some ⟨w.heap.size, 0, none⟩)] y _
    have c0 : y.cell? ⟨w.heap.size, 0, none⟩ = some (.string q) := by
      rw [Lib.cell_of_heap ((hy.block _ (lt_of hn)).trans hn)]; rfl
    have HP := Lib.hid (Try.strings_HasPrefix key q y)
    clear hy hn hb hW h
    go_enter Try.func34, Try.ntmps34
    go_wp2_with fail
    refine HP.out.mono ?_
    rintro e y' ⟨rfl, rfl⟩
    go_wp2_with fail
    go_ret
    exact ⟨rfl, rfl⟩)
  rw [some_, while_filter (rises_upon h.rises q) (upon_ge t.ents q)] at hc
  have c0 : W.cell? ⟨w.heap.size, 0, none⟩ = some (.string q) := by rw [Lib.cell_of_heap hn]; rfl
  have HC := Lib.hid hc
  have HW := Lib.hid hW
  have HB := Lib.hid hb
  clear hc h hW hb hn
  go_enter Try.func21, Try.ntmps21
  go_upto_region 1 with fail
  rw [← HW.out]
  clear HW
  go_wp2_with fail
  refine HC.out.mono ?_
  rintro e y ⟨v, rfl, h1, h2⟩
  have HY := Lib.hid (And.intro h1 h2)
  clear h1 h2
  go_wp2_with fail
  go_ret
  exact ⟨v, rfl, own_base HY.out.1 HB.out.size, HB.out.trans (HY.out.2.mono HB.out.size)⟩
theorem T.loc_set (q : ByteArray) (x : Int) (t : T) : loc (T.set q x t) = loc t := by
  cases t with
  | nil => rfl
  | bin b l k a r =>
    rw [T.set]
    split
    · rfl
    · split <;> rfl
theorem isT_set {w : World} (q : ByteArray) (x : Int) : ∀ {t : T} {b : Nat} {a : Int}, IsT w t → t.blks.Nodup → T.find q t = some (b, a) → IsT (w.setCell ⟨b, 1, none⟩ (.int .i64 x)) (T.set q x t)
  | .nil, _, _, _, _, h => by cases h
  | .bin c l k y r, b, a, h, hn, hf => by
    obtain ⟨p1, p2, p3, p4, p5⟩ := nodup_node.1 hn
    have ht := turn1 w b 1 (.int .i64 x)
    rw [T.find] at hf
    rw [T.set]
    split at hf
    · rename_i c1
      have hb := T.find_blks q hf
      rw [if_pos c1]
      refine ⟨?_, isT_set q x h.2.1 p3 hf, h.2.2.turn ht fun i hi e => p5 b hb (e ▸ hi)⟩
      rw [T.loc_set, T.size_set]
      exact h.1.turn ht fun e => p1 (e ▸ hb)
    · rename_i c1
      split at hf
      · rename_i c2
        have hb := T.find_blks q hf
        rw [if_neg c1, if_pos c2]
        refine ⟨?_, h.2.1.turn ht fun i hi e => p5 i hi (e ▸ hb), isT_set q x h.2.2 p4 hf⟩
        rw [T.loc_set, T.size_set]
        exact h.1.turn ht fun e => p2 (e ▸ hb)
      · rename_i c2
        rw [if_neg c1, if_neg c2]
        obtain ⟨rfl, rfl⟩ : c = b ∧ y = a := by cases hf; exact ⟨rfl, rfl⟩
        exact ⟨h.1.num x, h.2.1.turn ht (mem_ne p1), h.2.2.turn ht (mem_ne p2)⟩
theorem fit_put {t t' : T} (h : Fit t) {k : ByteArray} {a : Int} (hk : k.size ≤ keyMax) (he : t'.ents = put t.ents k a) : Fit t' := fun e hm => by
  rw [he, put] at hm
  rcases List.mem_append.1 hm with hm | hm
  · exact h e (List.mem_filter.1 hm).1
  · rcases List.mem_cons.1 hm with rfl | hm
    · exact hk
    · exact h e (List.mem_filter.1 hm).1
theorem fit_drop {t t' : T} (h : Fit t) {k : ByteArray} (he : t'.ents = drop t.ents k) : Fit t' := fun e hm => by
  rw [he, drop] at hm
  rcases List.mem_append.1 hm with hm | hm <;> exact h e (List.mem_filter.1 hm).1
set_option maxHeartbeats 4000000 in
set_option maxRecDepth 100000 in
theorem get_row {w : World} {p : Nat} {t : T} (h : IsH w p t) (q : ByteArray) : Calls Try.prog 10 #[.pointer (some ⟨p, 0, none⟩), .string q] w fun e y =>
    e = .returned (.tuple #[.int .i64 ((get t.ents q).getD 0), .int .i64 (if (get t.ents q).isSome then 0 else 19)]) ∧ y = w := by
  have c0 := h.cell
  have HF := Lib.hid (find_any q t w h.tree)
  have hg := T.find_get q h.rises
  have HH := Lib.hid h
  rw [← hg]
  clear hg h
  have HN := Lib.hid (show ∀ b a, T.find q t = some (b, a) → w.cell? ⟨b, 1, none⟩ = some (.int .i64 a) from by
    have key : ∀ t : T, IsT w t → ∀ b a, T.find q t = some (b, a) → w.cell? ⟨b, 1, none⟩ = some (.int .i64 a) := by
      intro t
      induction t with
      | nil => intro _ b a h; cases h
      | bin c l k y r ihl ihr =>
        intro h b a hf
        rw [T.find] at hf
        split at hf
        · exact ihl h.2.1 b a hf
        · split at hf
          · exact ihr h.2.2 b a hf
          · cases hf
            exact h.1.cells.2.1
    exact key t HH.out.tree)
  cases hf : T.find q t with
  | none =>
    rw [hf] at HF
    clear HN hf
    go_enter Try.func10, Try.ntmps10
    go_wp2_with fail
    refine HF.out.mono ?_
    rintro e y ⟨rfl, rfl⟩
    go_wp2_with fail
    go_ret2
    exact ⟨rfl, rfl⟩
  | some b =>
    obtain ⟨b, a⟩ := b
    rw [hf] at HF
    have c1 := HN.out b a hf
    clear HN hf
    simp only [Option.map_some] at HF
    go_enter Try.func10, Try.ntmps10
    go_wp2_with fail
    refine HF.out.mono ?_
    rintro e y ⟨rfl, rfl⟩
    go_wp2_with fail
    go_ret2
    exact ⟨rfl, rfl⟩
set_option maxHeartbeats 4000000 in
set_option maxRecDepth 100000 in
theorem len_row {w : World} {p : Nat} {t : T} (h : IsH w p t) : Calls Try.prog 16 #[.pointer (some ⟨p, 0, none⟩)] w fun e y => e = .returned (.int .i64 (t.ents.length : Nat)) ∧ y = w := by
  have c0 := h.cell
  have HL := Lib.hid (len_any w h.tree)
  rw [← T.ents_len] at HL
  clear h
  go_enter Try.func16, Try.ntmps16
  go_wp2_with fail
  refine HL.out.mono ?_
  rintro e y ⟨rfl, rfl⟩
  go_wp2_with fail
  go_ret
  exact ⟨rfl, rfl⟩
set_option maxHeartbeats 4000000 in
set_option maxRecDepth 100000 in
theorem rank_row {w : World} {p : Nat} {t : T} (h : IsH w p t) (q : ByteArray) : Calls Try.prog 17 #[.pointer (some ⟨p, 0, none⟩), .string q] w fun e y => e = .returned (.int .i64 (rank t.ents q : Nat)) ∧ y = w := by
  have c0 := h.cell
  have HL := Lib.hid (rank_any q t w h.tree h.rises (by have := h.few; omega))
  clear h
  go_enter Try.func17, Try.ntmps17
  go_wp2_with fail
  refine HL.out.mono ?_
  rintro e y ⟨rfl, rfl⟩
  go_wp2_with fail
  go_ret
  exact ⟨rfl, rfl⟩
set_option maxHeartbeats 4000000 in
set_option maxRecDepth 100000 in
theorem new_row (w : World) : Calls Try.prog 7 #[] w fun e y => e = .returned (.pointer (some ⟨w.heap.size, 0, none⟩)) ∧ IsH y w.heap.size .nil ∧ Below w.heap.size w y := by
  go_enter Try.func7, Try.ntmps7
  go_wp2_with fail
  go_ret
  exact ⟨rfl, ⟨heap_alloc_new w _, trivial, by simp [T.blks], List.Pairwise.nil, fun _ h => (by cases h), Nat.zero_le _⟩, (Below.refl _ _).alloc (Nat.le_refl _) _⟩
/-- What a call that turns a hedge leaves. -/
def Became (w : World) (p : Nat) (t : T) (L : List Ent) (x : World) : Prop := ∃ t', IsH x p t' ∧ t'.ents = L ∧ Turns (fun i => i ∈ p :: t.blks) w x ∧ ∀ i ∈ t'.blks, i ∈ t.blks ∨ w.heap.size ≤ i
set_option maxHeartbeats 4000000 in
set_option maxRecDepth 100000 in
theorem drop_row {w : World} {p : Nat} {t : T} (h : IsH w p t) (q : ByteArray) : Calls Try.prog 13 #[.pointer (some ⟨p, 0, none⟩), .string q] w fun e y =>
    e = .returned (.int .i64 (if (get t.ents q).isSome then 0 else 19)) ∧ Became w p t (drop t.ents q) y := by
  have c0 := h.cell
  have f0 := h.free
  have HF := Lib.hid (find_any q t w h.tree)
  have hg := T.find_get q h.rises
  have hsm := drop_same h.rises (k := q)
  rw [← hg] at hsm ⊢
  cases hf : T.find q t with
  | none =>
    rw [hf] at HF hsm
    have HB := Lib.hid (show Became w p t (drop t.ents q) w from ⟨t, h, (hsm rfl).symm, Turns.refl _ _, fun i hi => .inl hi⟩)
    clear hf h hsm hg
    go_enter Try.func13, Try.ntmps13
    go_wp2_with fail
    refine HF.out.mono ?_
    rintro e y ⟨rfl, hy⟩
    rw [hy]
    clear hy
    go_wp2_with fail
    go_ret
    exact ⟨rfl, HB.out⟩
  | some b =>
    obtain ⟨b, a⟩ := b
    have hap := List.nodup_cons.1 h.apart
    have HW := Lib.hid (without_any t q w h.tree hap.2 h.rises (by rw [hf]; rfl) (by have := h.few; omega))
    rw [hf] at HF
    have HH := Lib.hid h
    clear hf h hsm hg hap
    simp only [Option.map_some] at HF
    go_enter Try.func13, Try.ntmps13
    go_wp2_with fail
    refine HF.out.mono ?_
    rintro e y ⟨rfl, hy⟩
    rw [hy]
    clear hy
    go_wp2_with fail
    refine HW.out.mono ?_
    rintro e y ⟨rfl, ht, hy⟩
    obtain ⟨hb, hT, hap, hr, hfit, hfew⟩ := HH.out
    obtain ⟨hp1, hp2⟩ := List.nodup_cons.1 hap
    have hb1 := ht.heap hb hp1
    have hb2 : (y.setCell ⟨p, 0, none⟩ (.pointer (loc (T.del q t)))).heap[p]? = some (.cells #[.pointer (loc (T.del q t))] tHd (0, 0)) := Lib.heap_setCell_same (i := 0) hb1 _
    have t2 := turn1 y p 0 (.pointer (loc (T.del q t)))
    have hpd : p ∉ (T.del q t).blks := fun h => hp1 (T.mem_del h)
    have he := T.ents_del q hr
    have HB := Lib.hid (show Became w p t (drop t.ents q) (y.setCell ⟨p, 0, none⟩ (.pointer (loc (T.del q t)))) from
      ⟨T.del q t, ⟨hb2, hy.turn t2 (mem_ne hpd), List.nodup_cons.2 ⟨hpd, T.nodup_del q hp2⟩, by rw [he]; exact hr.drop q, fit_drop hfit he, by have := T.size_del q t; omega⟩, he,
        (ht.mono (G := fun i => i ∈ p :: t.blks) fun i _ h => List.mem_cons_of_mem _ h).trans t2 fun i _ e => by rw [e]; exact List.mem_cons_self, fun i hi => .inl (T.mem_del hi)⟩)
    have e0 : y.cell? ⟨p, 0, none⟩ = some (.pointer (loc t)) := by rw [Lib.cell_of_heap hb1]; rfl
    have ef : y.frozen? ⟨p, 0, none⟩ = false := Lib.frozen_of_heap hb1 0
    clear hb hT hap hr hfit hfew hp1 hp2 hb1 hb2 t2 hpd he ht hy HH HW
    go_wp2_with fail
    go_ret
    exact ⟨rfl, HB.out⟩
set_option maxHeartbeats 4000000 in
set_option maxRecDepth 100000 in
theorem put_row {w : World} {p : Nat} {t : T} (h : IsH w p t) (q : ByteArray) (x : Int) (hq : q.size ≤ keyMax) (hs : t.size < 40000) : Calls Try.prog 11 #[.pointer (some ⟨p, 0, none⟩), .string q, .int .i64 x] w fun e y =>
    e = .returned (.bool (get t.ents q).isNone) ∧ Became w p t (put t.ents q x) y := by
  have c0 := h.cell
  have f0 := h.free
  have HF := Lib.hid (find_any q t w h.tree)
  have hg := T.find_get q h.rises
  cases hf : T.find q t with
  | some b =>
    obtain ⟨b, a⟩ := b
    rw [hf] at hg
    have hgn : (get t.ents q).isNone = false := by rw [← hg]; rfl
    rw [hgn]
    obtain ⟨hb, hT, hap, hr, hfit, hfew⟩ := h
    obtain ⟨hp1, hp2⟩ := List.nodup_cons.1 hap
    have hbt := T.find_blks q hf
    have hpb : p ≠ b := fun e => hp1 (e ▸ hbt)
    have t2 := turn1 w b 1 (.int .i64 x)
    have he := T.ents_set q x hr (by rw [hf]; rfl)
    have HB := Lib.hid (show Became w p t (put t.ents q x) (w.setCell ⟨b, 1, none⟩ (.int .i64 x)) from
      ⟨T.set q x t, ⟨by rw [T.loc_set]; exact t2.heap hb hpb, isT_set q x hT hp2 hf, by rw [T.blks_set]; exact hap, by rw [he]; exact hr.put q x, fit_put hfit hq he, by rw [T.size_set]; exact hfew⟩, he,
        t2.mono fun i _ e => by rw [e]; exact List.mem_cons_of_mem _ hbt, fun i hi => .inl (by rw [T.blks_set] at hi; exact hi)⟩)
    have hnd : ∃ k c l r, Nd w b k a c l r := by
      have key : ∀ t : T, IsT w t → T.find q t = some (b, a) → ∃ k c l r, Nd w b k a c l r := by
        intro t
        induction t with
        | nil => intro _ h; cases h
        | bin c l k y r ihl ihr =>
          intro h hf
          rw [T.find] at hf
          split at hf
          · exact ihl h.2.1 hf
          · split at hf
            · exact ihr h.2.2 hf
            · cases hf
              exact ⟨_, _, _, _, h.1⟩
      exact key t hT hf
    obtain ⟨k1, k2, k3, k4, hnd⟩ := hnd
    obtain ⟨n0, n1, n2, n3, n4⟩ := hnd.cells
    have nf := hnd.free 1
    rw [hf] at HF
    simp only [Option.map_some] at HF
    clear hf hg hgn hb hT hap hr hfit hfew hp1 hp2 hbt hpb t2 he hnd n0 n2 n3 n4 f0
    go_enter Try.func11, Try.ntmps11
    go_wp2_with fail
    refine HF.out.mono ?_
    rintro e y ⟨rfl, hy⟩
    rw [hy]
    clear hy
    go_wp2_with fail
    go_ret
    exact ⟨rfl, HB.out⟩
  | none =>
    rw [hf] at hg
    have hgn : (get t.ents q).isNone = true := by rw [← hg]; rfl
    rw [hgn]
    rw [hf] at HF
    have HH := Lib.hid (And.intro h (And.intro hg hq))
    clear hf hg hgn h hq
    go_enter Try.func11, Try.ntmps11
    go_wp2_with fail
    refine HF.out.mono ?_
    rintro e y ⟨rfl, hy⟩
    rw [hy]
    clear hy
    go_wp2_with fail
    have HR := Lib.hid (show ∀ z, Below w.heap.size w z → z.cell? ⟨p, 0, none⟩ = some (.pointer (loc t)) from fun z hz => (HH.out.1.below hz).cell)
    refine Order.beginE (fun z => Below w.heap.size w z) [0, 9, 10, 11, 12] (by kernel_rfl) ?_
    apply Order.freeC (i := 0)
    · rfl
    · kernel_rfl
    · decide
    · decide +kernel
    · decide +kernel
    · exact fun _ _ _ _ _ h => Order.noPanic_put h
    · rfl
    · intro x
      go_simp
      rfl
    refine Order.readsC_any (idx := [1, 2, 3, 4, 5, 7]) (by kernel_rfl) (Below.refl _ _).drew (fun _ _ _ _ _ h => Order.noPanic_put h) 6 _ _ (by decide +kernel) ?_
    simp only [Order.pick, List.getElem?_toArray, List.getElem?_cons_zero, List.getElem?_cons_succ]
    repeat (first
      | (refine Order.reads_off (by rfl) ?_
         simp only [Act.put, List.setIfInBounds_toArray, List.set_cons_zero, List.set_cons_succ])
      | (apply Order.reads_on
         · rfl
         · intro x hx
           first
             | (have q0 := HR.out x hx
                go_simp; rfl)
         simp only [Act.put, List.setIfInBounds_toArray]))
    refine Order.reads_end ?_
    apply Order.actE (i := 6)
    · rfl
    · decide +kernel
    · rfl
    unfold Oper.wp
    go_simp
    have hdr : Below w.heap.size w w.drew := (Below.refl _ _).drew
    refine (clone_any q w.drew HH.out.2.2).mono ?_
    rintro e y2 ⟨rfl, hb2⟩
    have hy2 : Below w.heap.size w y2 := hdr.trans (hb2.mono (Nat.le_refl _))
    refine ⟨hy2, ?_⟩
    refine Order.readsC_any (idx := [8]) (by kernel_rfl) hy2 (fun _ _ _ _ _ h => Order.noPanic_put h) 4 _ _ (by decide +kernel) ?_
    simp only [Order.pick, List.getElem?_toArray, List.getElem?_cons_zero, List.getElem?_cons_succ]
    repeat (first
      | (refine Order.reads_off (by rfl) ?_
         simp only [Act.put, List.setIfInBounds_toArray, List.set_cons_zero, List.set_cons_succ])
      | (apply Order.reads_on
         · rfl
         · intro x hx
           first
             | (go_simp; rfl)
             | (fail
                go_simp; rfl)
         simp only [Act.put, List.setIfInBounds_toArray, List.set_cons_zero, List.set_cons_succ]))
    refine Order.reads_end ?_
    apply Order.lastE (i := 9)
    · rfl
    · decide +kernel
    · decide
    · rfl
    unfold Oper.wp
    go_simp
    obtain ⟨hb, hT, hap, hr, hfit, hfew⟩ := HH.out.1.below hy2
    obtain ⟨hp1, hp2⟩ := List.nodup_cons.1 hap
    refine (with_any q x t y2 hT hp2 (by omega)).mono ?_
    rintro e y ⟨nb, rfl, hnb, ht, hy⟩
    have hws := hy2.size
    have hlt := HH.out.1.lt
    have hpn : p ≠ nb := fun e => by have := hlt p List.mem_cons_self; omega
    have hb1 := ht.heap hb hp1
    have hb2 : (y.setCell ⟨p, 0, none⟩ (.pointer (loc (T.ins nb q x t)))).heap[p]? = some (.cells #[.pointer (loc (T.ins nb q x t))] tHd (0, 0)) := Lib.heap_setCell_same (i := 0) hb1 _
    have t2 := turn1 y p 0 (.pointer (loc (T.ins nb q x t)))
    have hpd : p ∉ (T.ins nb q x t).blks := fun h => (T.mem_ins h).elim hpn hp1
    have he := T.ents_ins nb q x hr HH.out.2.1.symm
    have hnt : nb ∉ t.blks := fun h => by have := hlt nb (List.mem_cons_of_mem _ h); omega
    have HB := Lib.hid (show Became w p t (put t.ents q x) (y.setCell ⟨p, 0, none⟩ (.pointer (loc (T.ins nb q x t)))) from
      ⟨T.ins nb q x t, ⟨hb2, hy.turn t2 (mem_ne hpd), List.nodup_cons.2 ⟨hpd, T.nodup_ins q x hp2 hnt⟩, by rw [he]; exact hr.put q x, fit_put hfit HH.out.2.2 he, by rw [T.size_ins]; omega⟩, he,
        ((Turns.of_below (F := fun i => i ∈ p :: t.blks) hy2).trans ht fun i _ h => List.mem_cons_of_mem _ h).trans t2 fun i _ e => by rw [e]; exact List.mem_cons_self, fun i hi => (T.mem_ins hi).elim (fun e => .inr (by omega)) .inl⟩)
    have e0 : y.cell? ⟨p, 0, none⟩ = some (.pointer (loc t)) := by rw [Lib.cell_of_heap hb1]; rfl
    have ef : y.frozen? ⟨p, 0, none⟩ = false := Lib.frozen_of_heap hb1 0
    clear hb hT hap hr hfit hfew hp1 hp2 hb1 hb2 t2 hpd he ht hy hws hlt hpn hnt hdr hy2
    apply Order.freeC (i := 10)
    · rfl
    · kernel_rfl
    · decide
    · decide +kernel
    · decide +kernel
    · exact fun _ _ _ _ _ h => Order.noPanic_put h
    · rfl
    · intro x
      go_simp
      rfl
    apply Order.freeC (i := 11)
    · rfl
    · kernel_rfl
    · decide
    · decide +kernel
    · decide +kernel
    · exact fun _ _ _ _ _ h => Order.noPanic_put h
    · rfl
    · intro x
      go_simp
      rfl
    apply Order.lastE (i := 12)
    · rfl
    · decide +kernel
    · decide
    · rfl
    unfold Oper.wp
    go_simp
    refine Order.doneE (by decide +kernel) ?_ _
    refine NoPanic.normal ?_
    generalize y.setCell ⟨p, 0, none⟩ (.pointer (loc (T.ins nb q x t))) = Z at *
    go_wp2_with fail
    go_ret
    exact ⟨rfl, HB.out⟩
end Hg
end Go.Proofs.Ytldacdpejncbnaa
