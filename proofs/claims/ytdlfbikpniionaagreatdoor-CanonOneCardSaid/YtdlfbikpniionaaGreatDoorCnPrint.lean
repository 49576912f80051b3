/-
  Layer 8 (canon): relText and Print, at configurations that are well made.
-/
import Derived.Test.YtdlfbikpniionaaGreatDoorCnAllow
namespace Go.Proofs.YtdlfbikpniionaaGreatDoor
open Go.RowKit
namespace Cn
open Tr (Nd IsNode node4 good size depth errOf fresh_one two none0)
open Gr (Al Rl Ty IsAl IsRl IsTy IsCf Lies ty_at rl_at al_at alV relV tyV tAl tRl tTy tCf box1 box2 box6 empty_iff bs bs_list bs_size bs_app bs_of prA prAs prAl prN prR prT prC WA WR WT WC)

/-- A sum of two texts. -/
theorem cat (a b : ByteArray) (h : a.size + b.size ≤ 100000000) : ∃ p : ByteArray, (∀ W, (Op.stringOp .add a b).run Tryz.prog W = .ok (.string p) W) ∧ p.size = a.size + b.size ∧ p.data.toList = a.data.toList ++ b.data.toList :=
  ⟨a ++ b, fun W => run_string_add_sum _ _ _ (by omega), ByteArray.size_append, by simp⟩
theorem eq_bs {p : ByteArray} {l : List UInt8} (h : p.data.toList = l) : p = bs l := by rw [← h, bs_of]
theorem gA_wa {a : Al} (h : gA a = true) : WA a := by
  rw [gA, Bool.and_eq_true, Bool.or_eq_true, Bool.and_eq_true] at h
  refine ⟨h.1, ?_⟩
  rcases h.2 with h | ⟨h1, h2⟩
  · exact .inl (Gr.nil_none h)
  · exact .inr ⟨by simpa using h2, h1⟩
theorem gR_parts {r : Rl} (h : gR r = true) : Tr.word r.name = true ∧ errOf r.expr = 0 ∧ ∀ a ∈ r.allow, WA a := by
  rw [gR, Bool.and_eq_true, Bool.and_eq_true] at h
  exact ⟨h.1.1, by simpa using h.1.2, fun a ha => gA_wa (List.all_eq_true.1 h.2 a ha)⟩
theorem err_zero {n : Nd} (h : errOf n = 0) : good n = true ∧ size n ≤ 24 ∧ depth n ≤ 8 := by
  rcases Tr.err_cases n with ⟨h', -⟩ | ⟨h', -⟩ | ⟨h', -⟩ | ⟨-, h1, h2, h3⟩
  · omega
  · omega
  · omega
  · exact ⟨h1, h2, h3⟩
theorem gC_wc {l : List Ty} (h : gC l = true) : WC l := fun t ht => by
  have h1 := List.all_eq_true.1 h t ht
  rw [gT, Bool.and_eq_true] at h1
  refine ⟨h1.1, fun r hr => ?_⟩
  have h2 := gR_parts (List.all_eq_true.1 h1.2 r hr)
  have h3 := err_zero h2.2.1
  exact ⟨h2.1, ⟨h3.1, h3.2.2⟩, h2.2.2⟩
/-- A relation's line, without what is ahead of it and behind it. -/
def rt (r : Rl) : List UInt8 := [114, 101, 108, 32] ++ (r.name.data.toList ++ ([32] ++ (prAl r.allow ++ ([61, 32] ++ (prN r.expr ++ [59])))))
theorem prR_rt (r : Rl) : prR r = [32, 32] ++ rt r ++ [10] := by simp [prR, rt]
theorem node_len {n : Nd} (h : errOf n = 0) : (prN n).length ≤ 1080 := by
  have h1 := err_zero h
  have := (Gr.node_low (size n) n (Nat.le_refl _) h1.1).2
  omega
theorem prAl_len {l : List Al} (h : ∀ a ∈ l, WA a) : (prAl l).length ≤ 37 * l.length + 2 := by
  rw [prAl, List.length_append]
  have := Gr.prAs_len l true h
  split <;> simp <;> omega
theorem rt_len {r : Rl} (h : gR r = true) : (rt r).length ≤ 37 * r.allow.length + 1110 := by
  have h1 := gR_parts h
  have h2 := node_len h1.2.1
  have h3 := prAl_len h1.2.2
  have h4 := Gr.word_len h1.1
  simp only [rt, List.length_append, List.length_cons, List.length_nil]
  omega

set_option maxHeartbeats 4000000 in
set_option maxRecDepth 100000 in
theorem relText_any (r : Rl) (v : Value) (w : World) (h : IsRl w r v) (hg : gR r = true) (hn : r.allow.length ≤ 100000) :
    Calls Tryz.prog 18 #[v] w fun e x => e = .returned (.string (bs (rt r))) ∧ Below w.heap.size w x := by
  obtain ⟨hw, he, hwa⟩ := gR_parts hg
  obtain ⟨ao, cap, no, nc, us, rfl, hl, hnd⟩ := h
  have h0 := heap_alloc_new w (.cells #[.string r.name, .slice ao r.allow.length cap, .int .i64 r.expr.kind, .string r.expr.ta, .string r.expr.tb, .slice no r.expr.kids.length nc] tRl)
  have al := fresh_one w (.cells #[.string r.name, .slice ao r.allow.length cap, .int .i64 r.expr.kind, .string r.expr.ta, .string r.expr.tb, .slice no r.expr.kids.length nc] tRl)
  have H0 := Lib.hid (And.intro h0 al)
  obtain ⟨b0, b1, b2, b3, b4, b5⟩ := box6 h0
  have HA := Lib.hid (fun x (hb : Below w.heap.size w x) => allowText_any r.allow ao cap us x (hl.on hb fun _ _ h => h) hwa hn)
  have HE := Lib.hid (fun x (hb : Below w.heap.size w x) => Expr_any r.expr _ x (hnd.below hb))
  have hnl := Tr.word_len hw
  have hel := node_len he
  have hal := prAl_len hwa
  have hgo : ∀ A : ByteArray, A.data.toList = prAl r.allow → ∃ p1 p2 p3 p4 p5 p6 : ByteArray, (∀ W, (Op.stringOp .add ⟨#[114, 101, 108, 32]⟩ r.name).run Tryz.prog W = .ok (.string p1) W) ∧ (∀ W, (Op.stringOp .add p1 ⟨#[32]⟩).run Tryz.prog W = .ok (.string p2) W) ∧
      (∀ W, (Op.stringOp .add p2 A).run Tryz.prog W = .ok (.string p3) W) ∧ (∀ W, (Op.stringOp .add p3 ⟨#[61, 32]⟩).run Tryz.prog W = .ok (.string p4) W) ∧ (∀ W, (Op.stringOp .add p4 (bs (prN r.expr))).run Tryz.prog W = .ok (.string p5) W) ∧
      (∀ W, (Op.stringOp .add p5 ⟨#[59]⟩).run Tryz.prog W = .ok (.string p6) W) ∧ p6 = bs (rt r) := fun A hA => by
    have hAs : A.size ≤ 3700002 := by rw [Lib.size_eq, hA]; omega
    obtain ⟨p1, q1, z1, d1⟩ := cat ⟨#[114, 101, 108, 32]⟩ r.name (by rw [show (⟨#[114, 101, 108, 32]⟩ : ByteArray).size = 4 from rfl]; omega)
    rw [show (⟨#[114, 101, 108, 32]⟩ : ByteArray).size = 4 from rfl] at z1
    obtain ⟨p2, q2, z2, d2⟩ := cat p1 ⟨#[32]⟩ (by rw [show (⟨#[32]⟩ : ByteArray).size = 1 from rfl]; omega)
    rw [show (⟨#[32]⟩ : ByteArray).size = 1 from rfl] at z2
    obtain ⟨p3, q3, z3, d3⟩ := cat p2 A (by omega)
    obtain ⟨p4, q4, z4, d4⟩ := cat p3 ⟨#[61, 32]⟩ (by rw [show (⟨#[61, 32]⟩ : ByteArray).size = 2 from rfl]; omega)
    rw [show (⟨#[61, 32]⟩ : ByteArray).size = 2 from rfl] at z4
    obtain ⟨p5, q5, z5, d5⟩ := cat p4 (bs (prN r.expr)) (by rw [bs_size]; omega)
    rw [bs_size] at z5
    obtain ⟨p6, q6, z6, d6⟩ := cat p5 ⟨#[59]⟩ (by rw [show (⟨#[59]⟩ : ByteArray).size = 1 from rfl]; omega)
    refine ⟨p1, p2, p3, p4, p5, p6, q1, q2, q3, q4, q5, q6, eq_bs ?_⟩
    rw [d6, d5, d4, d3, d2, d1, hA, bs_list, rt]
    simp
  have HQ := Lib.hid hgo
  have HB := Lib.hid (show (prAl r.allow).length ≤ 3700002 by omega)
  have HC := Lib.hid he
  clear h0 al hl hnd hg hn hw hgo hnl hel hal
  by_cases hz : 0 < r.allow.length
  · have hne : r.allow ≠ [] := List.length_pos_iff.1 hz
    have hjl := jn_prAl hne
    obtain ⟨t1, u1, y1, e1⟩ := cat ⟨#[91]⟩ (bs (jn [44, 32] (r.allow.map prA))) (by
      have : (prAl r.allow).length ≤ 3700002 := HB.out
      rw [hjl] at this
      rw [show (⟨#[91]⟩ : ByteArray).size = 1 from rfl, bs_size]
      simp at this
      omega)
    obtain ⟨t2, u2, y2, e2⟩ := cat t1 ⟨#[93, 32]⟩ (by
      have : (prAl r.allow).length ≤ 3700002 := HB.out
      rw [hjl] at this
      rw [show (⟨#[93, 32]⟩ : ByteArray).size = 2 from rfl, y1, show (⟨#[91]⟩ : ByteArray).size = 1 from rfl, bs_size]
      simp at this
      omega)
    obtain ⟨p1, p2, p3, p4, p5, p6, q1, q2, q3, q4, q5, q6, hfin⟩ := HQ.out t2 (by rw [e2, e1, hjl, bs_list]; simp)
    have HF := Lib.hid hfin
    have HA2 := Lib.hid (HA.out _ H0.out.2)
    clear hfin hwa HA HQ hne hjl y1 e1 y2 e2 HB
    go_enter Tryz.func18, Tryz.ntmps18
    go_wp2_with fail
    refine HA2.out.mono ?_
    rintro e x ⟨rfl, hx⟩
    have H1 := Lib.hid (And.intro (H0.out.2.trans (hx.mono H0.out.2.size)) ((hx.block _ (by simp)).trans H0.out.1))
    clear hx b0 b1 b2 b3 b4 b5 HA2
    obtain ⟨b0, b1, b2, b3, b4, b5⟩ := box6 H1.out.2
    go_wp2_with fail
    refine (HE.out _ H1.out.1).mono ?_
    rintro e y ⟨hy, ⟨h, -⟩ | ⟨-, rfl⟩⟩
    · exact absurd HC.out h
    have H2 := Lib.hid (And.intro (H1.out.1.trans (hy.mono H1.out.1.size)) ((hy.block _ (Array.getElem?_eq_some_iff.1 H1.out.2).1).trans H1.out.2))
    clear hy b0 b1 b2 b3 b4 b5
    obtain ⟨b0, b1, b2, b3, b4, b5⟩ := box6 H2.out.2
    go_wp2_with fail
    go_ret
    exact ⟨by rw [← HF.out]; rfl, H2.out.1⟩
  · have hz0 : r.allow = [] := List.eq_nil_of_length_eq_zero (by omega)
    obtain ⟨p1, p2, p3, p4, p5, p6, q1, q2, q3, q4, q5, q6, hfin⟩ := HQ.out ⟨#[]⟩ (by rw [hz0]; rfl)
    have HF := Lib.hid hfin
    clear hfin hwa HA HQ hz0 HB
    go_enter Tryz.func18, Tryz.ntmps18
    go_wp2_with fail
    refine (HE.out _ H0.out.2).mono ?_
    rintro e y ⟨hy, ⟨h, -⟩ | ⟨-, rfl⟩⟩
    · exact absurd HC.out h
    have H2 := Lib.hid (And.intro (H0.out.2.trans (hy.mono H0.out.2.size)) ((hy.block _ (by simp)).trans H0.out.1))
    clear hy b0 b1 b2 b3 b4 b5
    obtain ⟨b0, b1, b2, b3, b4, b5⟩ := box6 H2.out.2
    go_wp2_with fail
    go_ret
    exact ⟨by rw [← HF.out]; rfl, H2.out.1⟩
end Cn
end Go.Proofs.YtdlfbikpniionaaGreatDoor
