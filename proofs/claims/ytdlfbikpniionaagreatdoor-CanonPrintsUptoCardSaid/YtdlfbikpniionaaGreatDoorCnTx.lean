/-
  Layer 8 (canon): joined and text: an expression's text.
-/
import Derived.Test.YtdlfbikpniionaaGreatDoorCnA
import Derived.Test.YtdlfbikpniionaaGreatDoorCnRow
namespace Go.Proofs.YtdlfbikpniionaaGreatDoor
open Go.RowKit
namespace Cn
open Tr (Nd IsNode IsNodes Box4 node4 good goods size sizes depth depths size_pos size_kids sizes_len sizes_mem sizes_part sizes_take errOf IsExpr IsExprs fresh_one two part_at)
open Gr (bs bs_list bs_size bs_app bs_of prN prL sepB inTx needsB)

def tx (k : Int) (n : Nd) : ByteArray := bs (inTx (needsB k n.kind) (prN n))
theorem jn_false (k : Int) : ∀ (l : List Nd), (l.map fun n => inTx (needsB k n.kind) (prN n)).flatMap (fun b => sepB k ++ b) = prL k false l
  | [] => by rw [prL]; rfl
  | n :: l => by
    rw [prL, List.map_cons, List.flatMap_cons, jn_false k l, if_neg (by decide), List.append_assoc]
theorem jn_prL (k : Int) (l : List Nd) : jn (sepB k) (tls (l.map (tx k))) = prL k true l := by
  have e : tls (l.map (tx k)) = l.map fun n => inTx (needsB k n.kind) (prN n) := by
    rw [tls, List.map_map]
    rfl
  rw [e]
  cases l with
  | nil => rw [prL]; rfl
  | cons n l => rw [prL, List.map_cons, jn, jn_false, if_pos rfl, List.nil_append]
theorem tight_needs {k p : Int} (hk : k = 4 ∨ k = 5 ∨ k = 6) (hp : 1 ≤ p ∧ p ≤ 6) : decide (tight p ≤ tight k) = needsB k p := by
  have h6 : p = 1 ∨ p = 2 ∨ p = 3 ∨ p = 4 ∨ p = 5 ∨ p = 6 := by omega
  rcases hk with rfl | rfl | rfl <;> rcases h6 with rfl | rfl | rfl | rfl | rfl | rfl <;> decide
theorem good_kind {n : Nd} (h : good n = true) : 1 ≤ n.kind ∧ n.kind ≤ 6 := by
  cases n with
  | mk k a b l =>
    rcases Gr.good_cases h with ⟨rfl, -⟩ | ⟨rfl, -⟩ | ⟨rfl, -⟩ | ⟨rfl, -⟩ | ⟨rfl, -⟩ | ⟨rfl, -⟩ <;> exact ⟨by simp only [Nd.kind]; omega, by simp only [Nd.kind]; omega⟩
theorem in_br (T : List UInt8) : bs (inTx true T) = ⟨#[40]⟩ ++ bs T ++ ⟨#[41]⟩ := by
  rw [show (⟨#[40]⟩ : ByteArray) = bs [40] from rfl, show (⟨#[41]⟩ : ByteArray) = bs [41] from rfl, bs_app, bs_app]
  rfl
theorem szs_tx {k : Int} : ∀ {l : List Nd}, (∀ n ∈ l, (prN n).length + 5 ≤ 45 * size n) → szs (l.map (tx k)) ≤ 45 * sizes l
  | [], _ => by simp [szs]
  | n :: l, h => by
    have h1 := h n (by simp)
    have h2 := szs_tx (k := k) (l := l) fun m hm => h m (by simp [hm])
    have h3 : (tx k n).size ≤ (prN n).length + 2 := by
      rw [tx, bs_size]
      cases needsB k n.kind with
      | false => simp [inTx]
      | true => simp [inTx]
    rw [sizes]
    unfold szs at h2 ⊢
    rw [List.map_cons, List.map_cons, List.sum_cons]
    omega
/-- What a call of text answers. -/
def Told (n : Nd) (w : World) (e : Ending) (x : World) : Prop := e = .returned (.string (bs (prN n))) ∧ Below w.heap.size w x

set_option maxHeartbeats 4000000 in
set_option maxRecDepth 100000 in
theorem joined_of {k : Int} (hk : k = 4 ∨ k = 5 ∨ k = 6) (l : List Nd) (g o cap : Nat) (vs : List Value) (w : World) (hr : ∀ (i : Nat) (u : Value), vs[i]? = some u → w.cell? ⟨g, o + i, none⟩ = some u) (hks : IsExprs 0 w l vs)
    (hl : sizes l ≤ 24) (hg : goods l = true) (H : ∀ n ∈ l, ∀ u x, IsExpr 0 x n u → Calls Tryz.prog 31 #[u] x (Told n x)) :
    Calls Tryz.prog 47 #[.string (bs (sepB k)), .int .i64 (tight k), .slice (some ⟨g, o, none⟩) l.length cap] w fun e x => e = .returned (.string (bs (prL k true l))) ∧ Below w.heap.size w x := by
  have hll : l.length ≤ 24 := by have := sizes_len l; omega
  obtain ⟨c, hmk, hnew⟩ := make_texts l.length (by omega)
  have hlow : ∀ n ∈ l, (prN n).length + 5 ≤ 45 * size n := fun n hn => (Gr.node_low (size n) n (Nat.le_refl _) (Tr.goods_mem hg hn)).2
  have hsum := szs_tx (k := k) hlow
  have hshort : ∀ n ∈ l, (prN n).length ≤ 2000 := fun n hn => by have := hlow n hn; have := sizes_mem hn; omega
  have hfin := jn_prL k l
  have hsep : (bs (sepB k)).size = 2 ∨ (bs (sepB k)).size = 3 := by
    rcases hk with rfl | rfl | rfl <;> exact .inr rfl
  have HP := Lib.hid (And.intro hr hks)
  have HH := Lib.hid H
  have HK := Lib.hid (And.intro hk (And.intro hg (And.intro hshort (And.intro (show szs (l.map (tx k)) ≤ 4000000 by omega) (And.intro hfin hsep)))))
  have hn0 := hnew w
  have hb0 := fresh_one w (.cells c 9)
  have H0 := Lib.hid (And.intro hn0 hb0)
  clear hr hks H hg hlow hshort hsum hfin hsep hn0 hb0 hnew hl hk
  go_enter Tryz.func47, Tryz.ntmps47
  go_wp2_with fail
  clear hmk
  go_loopw [15] (fun i wr => ∃ j : Nat, j ≤ l.length ∧ i = .int .i64 j ∧ Hid (Texts w.heap.size l.length ((l.take j).map (tx k)) wr ∧ Below w.heap.size w wr)) (fun i _ => l.length - (intOf i).toNat)
  case atStart => exact ⟨0, by omega, rfl, H0⟩
  case round =>
    obtain ⟨j, hj, rfl, HJ⟩ := hrel
    clear H0
    by_cases hlt : j < l.length
    · obtain ⟨pv, hix, hgb, c0, hpn⟩ := part_at HP.out.1 HP.out.2 hlt (cap := cap)
      have c1 := (HJ.out.2.cell (p := ⟨g, o + j, none⟩) hgb).trans c0
      have hpn1 := hpn.below HJ.out.2
      obtain ⟨pt, px, rfl⟩ := hpn.iface
      have hC := HH.out l[j] (List.getElem_mem hlt) _ wr hpn1
      have hix2 := str_at (g := w.heap.size) (o := 0) (n := l.length) (cap := l.length) hlt
      simp only [Nat.zero_add] at hix2
      have hlen : ((l.take j).map (tx k)).length = j := by rw [List.length_map, List.length_take]; omega
      have htk : (l.take (j + 1)).map (tx k) = (l.take j).map (tx k) ++ [tx k l[j]] := by rw [List.take_succ_eq_append_getElem hlt, List.map_append]; rfl
      have hkind := good_kind (Tr.goods_mem HK.out.2.1 (List.getElem_mem hlt))
      have hneed := tight_needs HK.out.1 hkind
      have hpsz := HK.out.2.2.1 l[j] (List.getElem_mem hlt)
      have HC := Lib.hid hC
      have HT := Lib.hid (And.intro hlen (And.intro htk (And.intro hpn hneed)))
      have hj3 : j ≤ 24 := by omega
      clear hC hlen htk hpn hpn1 c0 hkind hneed hgb
      go_wp2_with fail
      refine HC.out.mono ?_
      rintro e x ⟨rfl, hx⟩
      have hT1 := HJ.out.1.on hx
      have hb1 := HJ.out.2.trans (hx.mono HJ.out.2.size)
      obtain ⟨ov, hcj⟩ := hT1.any hlt
      have hfz := hT1.free j
      have hput := hT1.put HT.out.1 hlt (bs (prN l[j]))
      have hb2 := hb1.setCell (p := ⟨w.heap.size, j, none⟩) (by simp) (.string (bs (prN l[j])))
      have HX := Lib.hid (And.intro hput (And.intro hb2 (HT.out.2.2.1.below hb2)))
      clear HC HJ hx hT1 hb1 hput hb2
      go_wp2_with fail
      refine (bound_any l[j] _ _ HX.out.2.2).mono ?_
      rintro e y ⟨rfl, hy⟩
      have hT2 := HX.out.1.on hy
      have hb3 := HX.out.2.1.trans (hy.mono HX.out.2.1.size)
      have hd := HT.out.2.2.2
      clear hfz hcj
      cases hnb : needsB k l[j].kind with
      | false =>
        rw [hnb] at hd
        have hfin : (l.take j).map (tx k) ++ [bs (prN l[j])] = (l.take (j + 1)).map (tx k) := by rw [HT.out.2.1, tx, hnb]; rfl
        have HY := Lib.hid (And.intro (hfin ▸ hT2) hb3)
        clear HX hy hT2 hb3 hnb hfin
        go_wp2_with fail
        go_roundw
        case rel => exact ⟨j + 1, by omega, by go_num, HY⟩
        case measure => simp [intOf]; omega
      | true =>
        rw [hnb] at hd
        have hfin : (l.take j).map (tx k) ++ [⟨#[40]⟩ ++ bs (prN l[j]) ++ ⟨#[41]⟩] = (l.take (j + 1)).map (tx k) := by rw [HT.out.2.1, tx, hnb, in_br]
        have hput := hT2.again HT.out.1 hlt (⟨#[40]⟩ ++ bs (prN l[j]) ++ ⟨#[41]⟩)
        rw [hfin] at hput
        have hb4 := hb3.setCell (p := ⟨w.heap.size, j, none⟩) (by simp) (.string (⟨#[40]⟩ ++ bs (prN l[j]) ++ ⟨#[41]⟩))
        have hc0 := hT2.last HT.out.1
        have hfz := hT2.free j
        have HY := Lib.hid (And.intro hput hb4)
        have z3 : (bs (prN l[j])).size ≤ 2000 := hpsz
        have z1 : (⟨#[40]⟩ : ByteArray).size = 1 := rfl
        have s1 : ∀ W, (Op.stringOp .add ⟨#[40]⟩ (bs (prN l[j]))).run Tryz.prog W = .ok (.string (⟨#[40]⟩ ++ bs (prN l[j]))) W := fun W => run_string_add_sum _ _ _ (by rw [z1]; omega)
        have s2 : ∀ W, (Op.stringOp .add (⟨#[40]⟩ ++ bs (prN l[j])) ⟨#[41]⟩).run Tryz.prog W = .ok (.string (⟨#[40]⟩ ++ bs (prN l[j]) ++ ⟨#[41]⟩)) W := fun W => run_string_add_sum _ _ _ (by rw [ByteArray.size_append, z1, show (⟨#[41]⟩ : ByteArray).size = 1 from rfl]; omega)
        clear HX hy hT2 hb3 hnb hfin hput hb4
        go_wp2_with fail
        go_roundw
        case rel => exact ⟨j + 1, by omega, by go_num, HY⟩
        case measure => simp [intOf]; omega
    · have hj' : j = l.length := by omega
      subst hj'
      have hJ := HJ.out
      rw [List.take_length] at hJ
      have hC := join_any (l.map (tx k)) (bs (sepB k)) w.heap.size 0 l.length wr (fun i u hi => by rw [Nat.zero_add]; exact hJ.1.cell hi) HK.out.2.2.2.2.2 (by rw [List.length_map]; omega) (by rw [List.length_map]; omega) HK.out.2.2.2.1
      rw [List.length_map, bs_list, HK.out.2.2.2.2.1] at hC
      have HC := Lib.hid hC
      have HB := Lib.hid hJ.2
      clear hC hJ HJ HH HP HK
      go_wp2_with fail
      refine HC.out.mono ?_
      rintro e x ⟨rfl, hx⟩
      go_wp2_with fail
      go_ret
      exact ⟨rfl, HB.out.trans (hx.mono HB.out.size)⟩
theorem asExcept_one (x : Value) (W : World) : (Instr.typeAssert (.iface 111 x) 72 111 false).run Tryz.prog W = .ok x W := by kernel_rfl

set_option maxHeartbeats 4000000 in
set_option maxRecDepth 100000 in
theorem text_any : ∀ (q : Nat) (n : Nd) (u : Value) (w : World), size n ≤ q → size n ≤ 24 → good n = true → IsExpr 0 w n u → Calls Tryz.prog 31 #[u] w (Told n w) := by
  intro q
  induction q with
  | zero => intro n u w h; have := size_pos n; omega
  | succ q ih =>
    intro n u w hq h24 hg hn
    cases n with
    | mk k a b l =>
    have al1 := fun (o : Obj) => fresh_one w o
    have al2 := fun (o p : Obj) => (fresh_one w o).alloc (by simp) p
    have al3 := fun (o p q : Obj) => ((fresh_one w o).alloc (by simp) p).alloc (by simp; omega) q
    have al4 := fun (o p q r : Obj) => (((fresh_one w o).alloc (by simp) p).alloc (by simp; omega) q).alloc (by simp; omega) r
    have al5 := fun (o p q r s : Obj) => ((((fresh_one w o).alloc (by simp) p).alloc (by simp; omega) q).alloc (by simp; omega) r).alloc (by simp; omega) s
    have al6 := fun (o p q r s t : Obj) => (((((fresh_one w o).alloc (by simp) p).alloc (by simp; omega) q).alloc (by simp; omega) r).alloc (by simp; omega) s).alloc (by simp; omega) t
    have al7 := fun (o p q r s t u : Obj) => ((((((fresh_one w o).alloc (by simp) p).alloc (by simp; omega) q).alloc (by simp; omega) r).alloc (by simp; omega) s).alloc (by simp; omega) t).alloc (by simp; omega) u
    have A := Lib.hid (And.intro al1 (And.intro al2 (And.intro al3 (And.intro al4 (And.intro al5 (And.intro al6 al7))))))
    clear al1 al2 al3 al4 al5 al6 al7
    have hsz : size (.mk k a b l) = sizes l + 1 := by rw [size]; omega
    have hgc := Gr.good_cases hg
    have hgs : goods l = true := by rw [good, Bool.and_eq_true] at hg; exact hg.1
    have HI := Lib.hid (show ∀ n ∈ l, ∀ u x, IsExpr 0 x n u → Calls Tryz.prog 31 #[u] x (Told n x) from
      fun n hn u x => ih n u x (by have := sizes_mem hn; omega) (by have := sizes_mem hn; omega) (Tr.goods_mem hgs hn))
    have HG := Lib.hid (And.intro hgs (show sizes l ≤ 24 by omega))
    rw [IsExpr] at hn
    clear ih hgs hg hsz h24 hq
    rcases hn with ⟨rfl, rfl⟩ | ⟨rfl, rfl⟩ | ⟨rfl, rfl⟩ | ⟨rfl, g, o, cp, vs, rfl, -, hc, hk'⟩ | ⟨rfl, g, o, cp, vs, rfl, -, hc, hk'⟩ | ⟨rfl, x1, x2, rfl, hk'⟩
    · have f1 := Tr.asThis_hit
      have hfin : prN (.mk 1 a b l) = [116, 104, 105, 115] := by rw [prN, if_pos rfl]
      have HF := Lib.hid hfin
      clear hfin hgc HI HG
      go_enter Tryz.func31, Tryz.ntmps31
      go_wp2_with fail
      go_ret
      exact ⟨by rw [HF.out]; rfl, A.out.1 _⟩
    · have f1 := Tr.asThis_Computed
      have f2 := Tr.asComputed_hit
      have hfin : bs (prN (.mk 2 a b l)) = a := by rw [prN, if_neg (by decide), if_pos rfl]; exact bs_of a
      have HF := Lib.hid hfin
      clear hfin hgc HI HG
      go_enter Tryz.func31, Tryz.ntmps31
      go_wp2_with fail
      go_ret
      exact ⟨by rw [HF.out]; rfl, A.out.2.1 _ _⟩
    · have f1 := Tr.asThis_Arrow
      have f2 := Tr.asComputed_Arrow
      have f3 := Tr.asArrow_hit
      have hab : a.size ≤ 16 ∧ b.size ≤ 16 := by
        rcases hgc with ⟨h, -⟩ | ⟨h, -⟩ | ⟨-, ha, hb, -⟩ | ⟨h, -⟩ | ⟨h, -⟩ | ⟨h, -⟩
        · omega
        · omega
        · exact ⟨Tr.word_len ha, Tr.word_len hb⟩
        · omega
        · omega
        · omega
      have z1 : (⟨#[45, 62]⟩ : ByteArray).size = 2 := rfl
      have s1 : ∀ W, (Op.stringOp .add a ⟨#[45, 62]⟩).run Tryz.prog W = .ok (.string (a ++ ⟨#[45, 62]⟩)) W := fun W => run_string_add_sum _ _ _ (by rw [z1]; omega)
      have s2 : ∀ W, (Op.stringOp .add (a ++ ⟨#[45, 62]⟩) b).run Tryz.prog W = .ok (.string (a ++ ⟨#[45, 62]⟩ ++ b)) W := fun W => run_string_add_sum _ _ _ (by rw [ByteArray.size_append, z1]; omega)
      have hfin : bs (prN (.mk 3 a b l)) = a ++ ⟨#[45, 62]⟩ ++ b := by
        rw [prN, if_neg (by decide), if_neg (by decide), if_pos rfl, ← bs_app, bs_of, ← bs_app, bs_of, ByteArray.append_assoc]
        rfl
      have HF := Lib.hid hfin
      clear hfin hgc HI HG
      go_enter Tryz.func31, Tryz.ntmps31
      go_wp2_with fail
      go_ret
      exact ⟨by rw [HF.out]; rfl, A.out.2.2.1 _ _ _⟩
    · have hlen := hk'.len
      have f1 := Tr.asThis_Union
      have f2 := Tr.asComputed_Union
      have f3 := Tr.asArrow_Union
      have f4 := Tr.asUnion_hit
      have hfin : prN (.mk 4 a b l) = prL 4 true l := by rw [prN, if_neg (by decide), if_neg (by decide), if_neg (by decide)]
      have hC := fun x (hb : Below w.heap.size w x) => joined_of (k := 4) (by omega) l g o cp vs x (fun i u hi => (hb.cell (World.block_lt_of_cell? w _ (hc i u hi))).trans (hc i u hi)) (hk'.below hb) HG.out.2 HG.out.1 HI.out
      have HC := Lib.hid hC
      have HF := Lib.hid hfin
      clear hfin hgc HI HG hC hc hk'
      go_enter Tryz.func31, Tryz.ntmps31
      go_wp2_with fail
      refine (HC.out _ (A.out.2.2.2.1 _ _ _ _)).mono ?_
      rintro e x ⟨rfl, hx⟩
      go_wp2_with fail
      go_ret
      exact ⟨by rw [HF.out]; rfl, (A.out.2.2.2.1 _ _ _ _).trans (hx.mono (A.out.2.2.2.1 _ _ _ _).size)⟩
    · have hlen := hk'.len
      have f1 := Tr.asThis_Meet
      have f2 := Tr.asComputed_Meet
      have f3 := Tr.asArrow_Meet
      have f4 := Tr.asUnion_Meet
      have f5 := Tr.asMeet_hit
      have hfin : prN (.mk 5 a b l) = prL 5 true l := by rw [prN, if_neg (by decide), if_neg (by decide), if_neg (by decide)]
      have hC := fun x (hb : Below w.heap.size w x) => joined_of (k := 5) (by omega) l g o cp vs x (fun i u hi => (hb.cell (World.block_lt_of_cell? w _ (hc i u hi))).trans (hc i u hi)) (hk'.below hb) HG.out.2 HG.out.1 HI.out
      have HC := Lib.hid hC
      have HF := Lib.hid hfin
      clear hfin hgc HI HG hC hc hk'
      go_enter Tryz.func31, Tryz.ntmps31
      go_wp2_with fail
      refine (HC.out _ (A.out.2.2.2.2.1 _ _ _ _ _)).mono ?_
      rintro e x ⟨rfl, hx⟩
      go_wp2_with fail
      go_ret
      exact ⟨by rw [HF.out]; rfl, (A.out.2.2.2.2.1 _ _ _ _ _).trans (hx.mono (A.out.2.2.2.2.1 _ _ _ _ _).size)⟩
    · have hlen := hk'.len
      obtain ⟨m0, m1, rfl⟩ : ∃ m0 m1, l = [m0, m1] := by
        match l, hlen with
        | [m0, m1], _ => exact ⟨m0, m1, rfl⟩
      have hk2 := hk'
      rw [IsExprs] at hk2
      obtain ⟨v0, vr, e0, hn0, hk2⟩ := hk2
      rw [IsExprs] at hk2
      obtain ⟨v1, vr', rfl, hn1, hk2⟩ := hk2
      rw [IsExprs] at hk2
      subst hk2
      obtain ⟨rfl, rfl⟩ : x1 = v0 ∧ x2 = v1 := by simpa using e0
      obtain ⟨t0, z0, rfl⟩ := hn0.iface
      obtain ⟨t1, z1, rfl⟩ := hn1.iface
      have f1 := Tr.asThis_Except
      have f2 := Tr.asComputed_Except
      have f3 := Tr.asArrow_Except
      have f4 := Tr.asUnion_Except
      have f5 := Tr.asMeet_Except
      have f6 := asExcept_one
      have hfin : prN (.mk 6 a b [m0, m1]) = prL 6 true [m0, m1] := by rw [prN, if_neg (by decide), if_neg (by decide), if_neg (by decide)]
      have hC := fun (X : World) (g : Nat) (hg : X.heap.size = g) (hb : Below w.heap.size w X) => joined_of (k := 6) (by omega) [m0, m1] g 0 2 [.iface t0 z0, .iface t1 z1] (X.alloc (.cells #[.iface t0 z0, .iface t1 z1] 72)) (fun i u hi => by
        rw [← hg, Lib.cell_of_heap (heap_alloc_new X _), Nat.zero_add, ← hi]
        simp) (hk'.below (hb.alloc hb.size _)) HG.out.2 HG.out.1 HI.out
      have HC := Lib.hid hC
      have HF := Lib.hid hfin
      clear hfin hgc hk' e0 hn0 hn1 hlen HI HG hC
      go_enter Tryz.func31, Tryz.ntmps31
      go_wp2_with fail
      refine (HC.out _ _ (by simp) (A.out.2.2.2.2.2.1 _ _ _ _ _ _)).mono ?_
      rintro e x ⟨rfl, hx⟩
      go_wp2_with fail
      go_ret
      exact ⟨by rw [HF.out]; rfl, (A.out.2.2.2.2.2.2 _ _ _ _ _ _ _).trans (hx.mono (A.out.2.2.2.2.2.2 _ _ _ _ _ _ _).size)⟩
/-- Expr: a node's text, or that it may have none. -/
theorem Expr_any (n : Nd) (v : Value) (w : World) (hn : IsNode w n v) :
    Calls Tryz.prog 15 #[v] w fun e x => Below w.heap.size w x ∧ ((errOf n ≠ 0 ∧ e = .returned (two (.string ⟨#[]⟩) (.int .i64 2))) ∨ (errOf n = 0 ∧ e = .returned (two (.string (bs (prN n))) (.int .i64 0)))) := by
  obtain ⟨ao, cap, vs, rfl, -, -⟩ := hn.kids
  have HC := Lib.hid (fun x (hb : Below w.heap.size w x) => expression_any n _ x (hn.below hb))
  have H0 := Lib.hid (fresh_one w (.cells #[.int .i64 n.kind, .string n.ta, .string n.tb, .slice ao n.kids.length cap] 45))
  obtain ⟨b0, b1, b2, b3⟩ := (Box4.new w n.kind n.ta n.tb (.slice ao n.kids.length cap)).cells
  have hce := Tr.err_cases n
  clear hn
  go_enter Tryz.func15, Tryz.ntmps15
  go_wp2_with fail
  refine (HC.out _ H0.out).mono ?_
  rintro e y ⟨hy, h⟩
  rcases h with ⟨he, rfl⟩ | ⟨he, u, rfl, hu⟩
  · have HE := Lib.hid (And.intro he (H0.out.trans (hy.mono H0.out.size)))
    clear he hy hce
    go_wp2_with fail
    go_ret2
    exact ⟨HE.out.2, .inl ⟨HE.out.1, rfl⟩⟩
  · obtain ⟨ut, uv, rfl⟩ := hu.iface
    have hgs : good n = true ∧ size n ≤ 24 := by
      rcases hce with ⟨h, -⟩ | ⟨h, -⟩ | ⟨h, -⟩ | ⟨-, h1, h2, -⟩
      · omega
      · omega
      · omega
      · exact ⟨h1, h2⟩
    have hT := text_any (size n) n _ y (Nat.le_refl _) hgs.2 hgs.1 (hu.mono (Nat.zero_le _))
    have HT := Lib.hid hT
    have HE := Lib.hid (And.intro he (H0.out.trans (hy.mono H0.out.size)))
    clear he hy hu hT hgs hce
    go_wp2_with fail
    refine HT.out.mono ?_
    rintro e z ⟨rfl, hz⟩
    go_wp2_with fail
    go_ret2
    exact ⟨HE.out.2.trans (hz.mono HE.out.2.size), .inr ⟨HE.out.1, rfl⟩⟩
end Cn
end Go.Proofs.YtdlfbikpniionaaGreatDoor
