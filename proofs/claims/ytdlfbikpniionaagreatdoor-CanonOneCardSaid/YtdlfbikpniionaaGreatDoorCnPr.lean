/-
  Layer 8 (canon): Print: a configuration's text, or that it may have none.
-/
import Derived.Test.YtdlfbikpniionaaGreatDoorCnPrint
namespace Go.Proofs.YtdlfbikpniionaaGreatDoor
open Go.RowKit
namespace Cn
open Tr (Nd IsNode node4 good size depth errOf fresh_one two none0)
open Gr (Al Rl Ty IsAl IsRl IsTy IsCf Lies ty_at rl_at al_at alV relV tyV tAl tRl tTy tCf box1 box2 box6 bs bs_list bs_size bs_app bs_of prR prT prC flat_take)

def hd (t : Ty) : List UInt8 := [116, 121, 112, 101, 32] ++ (t.name.data.toList ++ [32, 123, 10])
theorem prT_hd (t : Ty) : prT t = hd t ++ (t.rels.flatMap prR ++ [125, 10]) := by simp [prT, hd]
/-- What is written behind so many types, and so many relations of the next one. -/
def sofar (l : List Ty) (j : Nat) (t : Ty) (k : Nat) : List UInt8 := prC (l.take j) ++ hd t ++ (t.rels.take k).flatMap prR
theorem flat_le {α : Type} (f : α → List UInt8) (l : List α) (j : Nat) : ((l.take j).flatMap f).length ≤ (l.flatMap f).length := by
  have h : l.flatMap f = (l.take j).flatMap f ++ (l.drop j).flatMap f := by rw [← List.flatMap_append, List.take_append_drop]
  rw [h, List.length_append]
  omega
theorem sofar_zero (l : List Ty) (j : Nat) (t : Ty) : sofar l j t 0 = prC (l.take j) ++ hd t := by simp [sofar]
theorem sofar_step (l : List Ty) (j : Nat) (t : Ty) {k : Nat} (h : k < t.rels.length) : sofar l j t (k + 1) = sofar l j t k ++ prR t.rels[k] := by
  rw [sofar, flat_take prR h, sofar, List.append_assoc, List.append_assoc, List.append_assoc]
theorem sofar_last (l : List Ty) {j : Nat} (h : j < l.length) : sofar l j l[j] l[j].rels.length ++ [125, 10] = prC (l.take (j + 1)) := by
  have e : prC (l.take (j + 1)) = prC (l.take j) ++ prT l[j] := flat_take prT h
  rw [e, prT_hd, sofar, List.take_length]
  simp
theorem sofar_le (l : List Ty) {j : Nat} (h : j < l.length) (k : Nat) : (sofar l j l[j] k).length + 2 ≤ (prC l).length := by
  have h1 := congrArg List.length (sofar_last l h)
  have h2 : (prC (l.take (j + 1))).length ≤ (prC l).length := flat_le prT l (j + 1)
  have h3 := flat_le prR l[j].rels k
  simp only [sofar, List.length_append, List.take_length, List.length_cons, List.length_nil] at h1 ⊢
  omega
theorem kept {w x : World} {b R : Nat} {cs : Array Value} {T : TypeId} (h : Lib.OthersKept 5 (some b) w x) (hR : w.heap[R]? = some (.cells cs T (0, 0))) (hb : R ≠ b) (hT : T ≠ 5) : x.heap[R]? = some (.cells cs T (0, 0)) := by
  refine h R _ hR (fun e => hb (Option.some.inj e)) fun c fz e => hT ?_
  injection e
theorem lenB (l : List UInt8) : (Lib.byteCells l).length = l.length := Lib.byteCells_length l

set_option maxHeartbeats 8000000 in
set_option maxRecDepth 100000 in
theorem Print_any (l : List Ty) (v : Value) (w : World) (h : IsCf w l v) (hn : ∀ t ∈ l, ∀ r ∈ t.rels, r.allow.length ≤ 100000) (hlen : gC l = true → (prC l).length ≤ 4000000) :
    Calls Tryz.prog 7 #[v] w fun e x => Below w.heap.size w x ∧ ((gC l = false ∧ e = .returned (two (.string ⟨#[]⟩) (.int .i64 2))) ∨ (gC l = true ∧ e = .returned (two (.string (bs (prC l))) (.int .i64 0)))) := by
  have HG := Lib.hid (fun x (hb : Below w.heap.size w x) => Good_any l v x (h.below hb))
  obtain ⟨ao, cap, us, rfl, hl⟩ := h
  have h0 := heap_alloc_new w (.cells #[.slice ao l.length cap] tCf)
  have al := fresh_one w (.cells #[.slice ao l.length cap] tCf)
  have H0 := Lib.hid (And.intro h0 al)
  have b0 := box1 h0
  have HL := Lib.hid hl
  have HN := Lib.hid hn
  have HS := Lib.hid hlen
  have hbig : l.length ≤ 9223372036854775807 := hl.big
  clear h0 al hl hn hlen
  cases hg : gC l with
  | false =>
    rw [hg] at HG
    clear hg
    go_enter Tryz.func7, Tryz.ntmps7
    go_wp2_with fail
    refine (HG.out _ H0.out.2).mono ?_
    rintro e x ⟨rfl, hx⟩
    have H1 := Lib.hid (H0.out.2.trans (hx.mono H0.out.2.size))
    clear hx
    go_wp2_with fail
    go_ret2
    exact ⟨H1.out, .inl ⟨by first | rfl | trivial, rfl⟩⟩
  | true =>
    rw [hg] at HG
    have HGT := Lib.hid (show ∀ t ∈ l, Tr.word t.name = true ∧ ∀ r ∈ t.rels, gR r = true from fun t ht => by
      have h1 := List.all_eq_true.1 hg t ht
      rw [gT, Bool.and_eq_true] at h1
      exact ⟨h1.1, List.all_eq_true.1 h1.2⟩)
    have HS2 := Lib.hid (HS.out hg)
    clear hg HS
    go_enter Tryz.func7, Tryz.ntmps7
    go_wp2_with fail
    refine (HG.out _ H0.out.2).mono ?_
    rintro e x ⟨rfl, hx⟩
    have h1 := H0.out.2.trans (hx.mono H0.out.2.size)
    have hk := (hx.block _ (by simp)).trans H0.out.1
    have al := fresh_one x (.cells #[.pointer none, .slice none 0 0] 55)
    have hB : Lib.IsBuilderF 55 5 x.heap.size x.heap.size (Lib.byteCells []) (x.alloc (.cells #[.pointer none, .slice none 0 0] 55)) := Lib.IsBuilderF.of (Lib.fresh_isBuilder 55 5 x)
    have b0 := box1 ((al.block _ (Array.getElem?_eq_some_iff.1 hk).1).trans hk)
    have H1 := Lib.hid (And.intro hB (And.intro (h1.trans (al.mono h1.size)) h1.size))
    clear hx h1 hk al hB H0 HG
    go_upto_region 4 with fail
    generalize x.alloc (.cells #[.pointer none, .slice none 0 0] 55) = X at *
    generalize x.heap.size = b at *
    go_wp2_with fail
    clear b0
    go_loopw [15] (fun i wr => ∃ j : Nat, j ≤ l.length ∧ i = .int .i64 j ∧ Hid (Lib.IsBuilderF 55 5 b b (Lib.byteCells (prC (l.take j))) wr ∧ Below b X wr)) (fun i _ => l.length - (intOf i).toNat)
    case atStart => exact ⟨0, by omega, rfl, Lib.hid ⟨H1.out.1, Below.refl _ _⟩⟩
    case round =>
      obtain ⟨j, hj, rfl, HJ⟩ := hrel
      have hbw := H1.out.2.1.trans (HJ.out.2.mono H1.out.2.2)
      by_cases hlt : j < l.length
      · obtain ⟨g, q, ro, rc, vs, hix, hgw, c0', c1', hla⟩ := ty_at HL.out cap hlt
        have c0 := (hbw.cell (p := ⟨g, q, none⟩) hgw).trans c0'
        have c1 := (hbw.cell (p := ⟨g, q + 1, none⟩) hgw).trans c1'
        have hgt := HGT.out l[j] (List.getElem_mem hlt)
        have hnn := HN.out l[j] (List.getElem_mem hlt)
        have hz := sofar_zero l j l[j]
        have hst := fun k (hk : k < l[j].rels.length) => sofar_step l j l[j] hk
        have hla2 := sofar_last l hlt
        have hle := fun k => Nat.le_trans (sofar_le l hlt k) HS2.out
        generalize l[j] = t at *
        have hbx := heap_alloc_new wr (.cells #[.string t.name, .slice ro t.rels.length rc] tTy)
        have al := fresh_one wr (.cells #[.string t.name, .slice ro t.rels.length rc] tTy)
        have hbl : b < wr.heap.size := by rcases HJ.out.1 with h | h <;> exact h.lt
        have hnl := Tr.word_len hgt.1
        obtain ⟨t1, u1, y1, e1⟩ := cat ⟨#[116, 121, 112, 101, 32]⟩ t.name (by rw [show (⟨#[116, 121, 112, 101, 32]⟩ : ByteArray).size = 5 from rfl]; omega)
        rw [show (⟨#[116, 121, 112, 101, 32]⟩ : ByteArray).size = 5 from rfl] at y1
        obtain ⟨t2, u2, y2, e2⟩ := cat t1 ⟨#[32, 123, 10]⟩ (by rw [show (⟨#[32, 123, 10]⟩ : ByteArray).size = 3 from rfl]; omega)
        rw [show (⟨#[32, 123, 10]⟩ : ByteArray).size = 3 from rfl] at y2
        have hT2 : t2.data.toList = hd t := by rw [e2, e1, hd]; simp
        have hl0 := hle 0
        rw [hz, List.length_append] at hl0
        have HB2 := Lib.hid (And.intro (HJ.out.1.alloc (.cells #[.string t.name, .slice ro t.rels.length rc] tTy)) (And.intro (HJ.out.2.trans (al.mono (by omega))) hbx))
        have HT := Lib.hid (And.intro hla (And.intro hgt.2 (And.intro hnn (And.intro hz (And.intro hst (And.intro hla2 (And.intro hle hT2)))))))
        have HC := Lib.hid (show (Lib.byteCells (prC (l.take j))).length + t2.size ≤ 140737488355328 by rw [lenB]; omega)
        have hbs : b ≤ (wr.alloc (.cells #[.string t.name, .slice ro t.rels.length rc] tTy)).heap.size := by simp; omega
        have hRb : ¬ wr.heap.size = b := by omega
        clear hla hgt hnn hz hst hla2 hle hbx al HJ hnl y1 y2 e1 e2 hT2 hl0 hbw hgw c0' c1'
        go_wp2_with (go_at_call 17; refine (Bld.writeString b b _ t2 _ HB2.out.1 HC.out hbs).mono ?_)
        rintro e x1 ⟨rfl, k1, kb1, ko⟩
        have hbx2 := kept ko HB2.out.2.2 (by omega) (by decide)
        obtain ⟨-, d1⟩ := box2 hbx2
        have hk2 : Lib.IsBuilderF 55 5 b b (Lib.byteCells (sofar l j t 0)) x1 := by
          rw [HT.out.2.2.2.1, Lib.byteCells_append, ← HT.out.2.2.2.2.2.2.2]
          exact .inr k1
        have H2 := Lib.hid (And.intro hk2 (HB2.out.2.1.trans kb1))
        have hrb : t.rels.length ≤ 9223372036854775807 := HT.out.1.big
        clear k1 kb1 ko hbx2 hk2 HB2 HC c0 c1 hix
        go_wp2_with fail
        clear d1
        go_loopw [27] (fun i wr => ∃ k : Nat, k ≤ t.rels.length ∧ i = .int .i64 k ∧ Hid (Lib.IsBuilderF 55 5 b b (Lib.byteCells (sofar l j t k)) wr ∧ Below b X wr)) (fun i _ => t.rels.length - (intOf i).toNat)
        case atStart => exact ⟨0, by omega, rfl, H2⟩
        case round =>
          obtain ⟨k, hk, rfl, HK⟩ := hrel
          clear H2
          have hbw := H1.out.2.1.trans (HK.out.2.mono H1.out.2.2)
          by_cases hkt : k < t.rels.length
          · obtain ⟨g2, q2, so, sc, no, nc, ss, hix, hgw, c0', c1', c2', c3', c4', c5', hla, hnd⟩ := rl_at HT.out.1 rc hkt
            have c0 := (hbw.cell (p := ⟨g2, q2, none⟩) hgw).trans c0'
            have c1 := (hbw.cell (p := ⟨g2, q2 + 1, none⟩) hgw).trans c1'
            have c2 := (hbw.cell (p := ⟨g2, q2 + 2, none⟩) hgw).trans c2'
            have c3 := (hbw.cell (p := ⟨g2, q2 + 3, none⟩) hgw).trans c3'
            have c4 := (hbw.cell (p := ⟨g2, q2 + 4, none⟩) hgw).trans c4'
            have c5 := (hbw.cell (p := ⟨g2, q2 + 5, none⟩) hgw).trans c5'
            have hgr := HT.out.2.1 t.rels[k] (List.getElem_mem hkt)
            have hnr := HT.out.2.2.1 t.rels[k] (List.getElem_mem hkt)
            have hst := HT.out.2.2.2.2.1 k hkt
            have hl1 := HT.out.2.2.2.2.2.2.1 (k + 1)
            rw [hst, List.length_append] at hl1
            generalize t.rels[k] = r at *
            have al := fresh_one wr (.cells #[.string r.name, .slice so r.allow.length sc, .int .i64 r.expr.kind, .string r.expr.ta, .string r.expr.tb, .slice no r.expr.kids.length nc] tRl)
            have hbw2 := hbw.trans (al.mono hbw.size)
            have HR := Lib.hid (relText_any r (relV r (.slice so r.allow.length sc) (.slice no r.expr.kids.length nc)) (wr.alloc (.cells #[.string r.name, .slice so r.allow.length sc, .int .i64 r.expr.kind, .string r.expr.ta, .string r.expr.tb, .slice no r.expr.kids.length nc] tRl))
              ⟨so, sc, no, nc, ss, rfl, hla.on hbw2 fun _ _ h => h, hnd.below hbw2⟩ hgr hnr)
            have hrl := rt_len hgr
            obtain ⟨t1, u1, y1, e1⟩ := cat ⟨#[32, 32]⟩ (bs (rt r)) (by rw [show (⟨#[32, 32]⟩ : ByteArray).size = 2 from rfl, bs_size]; omega)
            rw [show (⟨#[32, 32]⟩ : ByteArray).size = 2 from rfl, bs_size] at y1
            obtain ⟨t2, u2, y2, e2⟩ := cat t1 ⟨#[10]⟩ (by rw [show (⟨#[10]⟩ : ByteArray).size = 1 from rfl]; omega)
            rw [show (⟨#[10]⟩ : ByteArray).size = 1 from rfl] at y2
            have hT2 : t2.data.toList = prR r := by rw [e2, e1, bs_list, prR_rt]
            have hpl : (prR r).length = t2.size := by rw [← hT2, Lib.size_eq]
            have HC := Lib.hid (show (Lib.byteCells (sofar l j t k)).length + t2.size ≤ 140737488355328 by rw [lenB]; omega)
            have hbl : b < wr.heap.size := by rcases HK.out.1 with h | h <;> exact h.lt
            have HB2 := Lib.hid (And.intro (HK.out.1.alloc (.cells #[.string r.name, .slice so r.allow.length sc, .int .i64 r.expr.kind, .string r.expr.ta, .string r.expr.tb, .slice no r.expr.kids.length nc] tRl)) (HK.out.2.trans (al.mono (by omega))))
            have HE := Lib.hid (And.intro hst hT2)
            clear c0' c1' c2' c3' c4' c5' hla hnd hgr hnr hst hl1 al hbw2 hrl y1 y2 e1 e2 hT2 hpl HK hbw hgw
            go_wp2_with fail
            refine HR.out.mono ?_
            rintro e x2 ⟨rfl, hx⟩
            have hsz2 : b ≤ x2.heap.size := by have := hx.size; simp at this; omega
            have HB3 := Lib.hid (And.intro (Bld.kept_below HB2.out.1 hx) (HB2.out.2.trans (hx.mono (by simp; omega))))
            clear hx HB2 HR c0 c1 c2 c3 c4 c5 hix
            go_wp2_with (go_at_call 17; refine (Bld.writeString b b _ t2 _ HB3.out.1 HC.out hsz2).mono ?_)
            rintro e x3 ⟨rfl, k1, kb1, -⟩
            have hk2 : Lib.IsBuilderF 55 5 b b (Lib.byteCells (sofar l j t (k + 1))) x3 := by
              rw [HE.out.1, Lib.byteCells_append, ← HE.out.2]
              exact .inr k1
            have HK2 := Lib.hid (And.intro hk2 (HB3.out.2.trans kb1))
            clear k1 kb1 hk2 HB3 HC
            go_wp2_with fail
            go_roundw
            case rel => exact ⟨k + 1, by omega, by go_num, HK2⟩
            case measure => simp [intOf]; omega
          · have hk' : k = t.rels.length := by omega
            subst hk'
            have HC := Lib.hid (show (Lib.byteCells (sofar l j t t.rels.length)).length + (⟨#[125, 10]⟩ : ByteArray).size ≤ 140737488355328 by
              have := HT.out.2.2.2.2.2.2.1 t.rels.length
              rw [lenB, show (⟨#[125, 10]⟩ : ByteArray).size = 2 from rfl]
              omega)
            have hsz2 : b ≤ wr.heap.size := by rcases HK.out.1 with h | h <;> exact Nat.le_of_lt h.lt
            go_wp2_with (go_at_call 17; refine (Bld.writeString b b _ ⟨#[125, 10]⟩ _ HK.out.1 HC.out hsz2).mono ?_)
            rintro e x3 ⟨rfl, k1, kb1, -⟩
            have hk2 : Lib.IsBuilderF 55 5 b b (Lib.byteCells (prC (l.take (j + 1)))) x3 := by
              rw [← HT.out.2.2.2.2.2.1, Lib.byteCells_append]
              exact .inr k1
            have HK2 := Lib.hid (And.intro hk2 (HK.out.2.trans kb1))
            clear k1 kb1 hk2 HC HK
            go_wp2_with fail
            go_roundw
            case rel => exact ⟨j + 1, by omega, by go_num, HK2⟩
            case measure => simp [intOf]; omega
      · have hj' : j = l.length := by omega
        subst hj'
        have hJ := HJ.out
        rw [List.take_length] at hJ
        have hsz2 : b ≤ wr.heap.size := by rcases hJ.1 with h | h <;> exact Nat.le_of_lt h.lt
        have HJ2 := Lib.hid hJ
        have HW := Lib.hid hbw
        clear hJ HJ hbw
        go_wp2_with (go_at_call 19; refine (Tryz.Builder_String_any_k b b _ _ HJ2.out.1 hsz2).mono ?_)
        rintro e y1 ⟨rfl, -, kb1, -⟩
        go_wp2_with fail
        go_ret2
        exact ⟨HW.out.trans (kb1.mono H1.out.2.2), .inr ⟨by first | rfl | trivial, rfl⟩⟩
end Cn
end Go.Proofs.YtdlfbikpniionaaGreatDoor
