/-
  Layer 10 (cask): tieAllow, tieNode, tieRel, tieType, Pack.
-/
import Derived.Test.YtopncohhagebbaaDoorCkTieL
import Derived.Test.YtopncohhagebbaaDoorCnGood
namespace Go.Proofs.YtopncohhagebbaaDoor
open Go.RowKit Go.Sort
namespace Ck
open Knot (Turns NewRow Kn KStep Tied ptr Tab number textB markB tab_on number_good text_any)
open Tr (Nd none0 node4 IsNode)
open Who (bs bs_list bs_size bs_self eq_of_list)
open Gr (Al Rl Ty IsAl IsRl IsTy IsCf Lies alV relV tyV tAl tRl tTy tCf)

theorem enter_tieAllow : ∀ args W, (callFunc 52 args).run Tryd.prog W = .ok (.enter 52 args) W := fun args W => by kernel_rfl
theorem enter_tieNode : ∀ args W, (callFunc 53 args).run Tryd.prog W = .ok (.enter 53 args) W := fun args W => by kernel_rfl
theorem enter_tieRel : ∀ args W, (callFunc 36 args).run Tryd.prog W = .ok (.enter 36 args) W := fun args W => by kernel_rfl
theorem enter_tieType : ∀ args W, (callFunc 21 args).run Tryd.prog W = .ok (.enter 21 args) W := fun args W => by kernel_rfl

/-- What stands while a thing in a box is tied. -/
structure Tb (W : World) (K : Nat) (v vi : Value) (l : List UInt8) (w : World) (R : Nat) (cs : Array Value) (T : TypeId) (x : World) : Prop where
  kn : Kn W.heap.size x K vi l
  step : KStep K v vi w x
  below : Below W.heap.size W x
  box : x.heap[R]? = some (.cells cs T (0, 0))
  apart : ¬ Knot.Foot K vi R
theorem Tb.start {W : World} {K : Nat} {v : Value} {l : List UInt8} {w : World} (h : Kn W.heap.size w K v l) (hb : Below W.heap.size W w) (cs : Array Value) (T : TypeId) : Tb W K v v l w w.heap.size cs T (w.alloc (.cells cs T)) :=
  ⟨h.alloc _, (KStep.refl K v w).then_below (Tr.fresh_one w _), hb.trans ((Tr.fresh_one w _).mono hb.size), heap_alloc_new w _, fun hf => by have := (h.foot _ hf).2; omega⟩
theorem Tb.on {W : World} {K : Nat} {v vi vj : Value} {l m : List UInt8} {w : World} {R : Nat} {cs : Array Value} {T : TypeId} {x y : World} (h : Tb W K v vi l w R cs T x) (hk : Kn W.heap.size y K vj (l ++ m)) (hs : KStep K vi vj x y) : Tb W K v vj (l ++ m) w R cs T y :=
  ⟨hk, h.step.trans hs, h.below.trans (hs.below h.kn), (hs.turns.block R (Array.getElem?_eq_some_iff.1 h.box).1 h.apart).trans h.box, fun hf => by
    rcases hf with e | e
    · exact h.apart (.inl e)
    · rcases hs.new R e with h' | h'
      · exact h.apart (.inr h')
      · have := (Array.getElem?_eq_some_iff.1 h.box).1; omega⟩

set_option maxHeartbeats 4000000 in
set_option maxRecDepth 100000 in
theorem tieAllow_runs (W : World) (hT : Tab W.heap.size W) (a : Al) (ha : okA a) : Runs IsAl W 52 allowB a := by
  rintro K v l w u h rfl hb hz
  have hz2 : l.length + ((textB a.ty.data.toList).length + ((textB a.rel.data.toList).length + (markB a.wild).length)) ≤ 60000000 := by
    rw [allowB, List.length_append, List.length_append] at hz
    exact hz
  have h0 := Tb.start h hb #[.string a.ty, .string a.rel, .bool a.wild] tAl
  have H0 := Lib.hid h0
  have HT := Lib.hid hT
  have HA := Lib.hid ha
  have HZ := Lib.hid hz2
  have HC := Lib.hid (text_any W.heap.size K v l a.ty _ h0.kn (by omega) (by have := ha.1; omega) (tab_on hT h0.below))
  clear h hb hz hz2 h0 hT ha
  obtain ⟨c0, c1, c2⟩ := box3 H0.out.box
  go_enter Tryd.func52, Tryd.ntmps52
  go_upto_region 1 with fail
  generalize w.alloc (.cells #[.string a.ty, .string a.rel, .bool a.wild] 59) = X at *
  generalize w.heap.size = R at *
  go_wp2_with fail
  refine HC.out.mono ?_
  rintro e y ⟨rfl, v1, k1, s1⟩
  have h1 := H0.out.on k1 s1
  have H1 := Lib.hid h1
  have HC1 := Lib.hid (text_any W.heap.size K v1 _ a.rel _ h1.kn (by have := HZ.out; rw [List.length_append]; omega) (by have := HA.out.2; omega) (tab_on HT.out h1.below))
  clear k1 s1 h1 HC H0 c0 c1 c2
  obtain ⟨c0, c1, c2⟩ := box3 H1.out.box
  go_wp2_with fail
  refine HC1.out.mono ?_
  rintro e y ⟨rfl, v2, k2, s2⟩
  have h2 := H1.out.on k2 s2
  have H2 := Lib.hid h2
  have HC2 := Lib.hid (Knot.mark_any W.heap.size K v2 _ a.wild _ h2.kn (by have := HZ.out; rw [List.length_append, List.length_append]; omega))
  clear k2 s2 h2 HC1 H1 c0 c1 c2
  obtain ⟨c0, c1, c2⟩ := box3 H2.out.box
  go_wp2_with fail
  refine HC2.out.mono ?_
  rintro e y ⟨rfl, v3, k3, s3⟩
  have h3 := H2.out.on k3 s3
  have H3 := Lib.hid h3
  clear k3 s3 h3 HC2 H2 c0 c1 c2
  go_wp2_with fail
  go_end0
  refine ⟨rfl, v3, ?_, H3.out.step⟩
  have := H3.out.kn
  rw [List.append_assoc, List.append_assoc] at this
  exact this

set_option maxHeartbeats 4000000 in
set_option maxRecDepth 100000 in
theorem tieNode_runs (W : World) (hT : Tab W.heap.size W) : ∀ (d : Nat) (n : Nd), okN kidsP d n → Runs IsNode W 53 nodeB n := by
  intro d
  induction d with
  | zero => intro n h; exact h.elim
  | succ d ih =>
    intro n hn K v l w u h hu hb hz
    obtain ⟨⟨hk0, hk6⟩, ha, hbb, hkn, -, hkids⟩ := hn
    obtain ⟨ao, cap, vs, rfl, -, hks⟩ := hu.kids
    rw [nodeB_eq, List.length_append, List.length_append, List.length_append] at hz
    rw [nodeB_eq]
    obtain ⟨k, hk⟩ : ∃ k : Nat, n.kind = k := ⟨n.kind.toNat, by omega⟩
    rw [hk] at hk6 hz ⊢
    rw [Int.toNat_natCast] at hz ⊢
    have HI := Lib.hid (fun m (hm : m ∈ n.kids) => ih m (hkids m hm))
    have HS := Lib.hid (And.intro ha hbb)
    have h0 := Tb.start h hb #[.int .i64 k, .string n.ta, .string n.tb, .slice ao n.kids.length cap] 52
    have H0 := Lib.hid h0
    have HT := Lib.hid hT
    have HZ := Lib.hid hz
    have HK := Lib.hid hks
    have HC := Lib.hid (number_good W.heap.size K k v l _ h0.kn (by omega) (by omega) (tab_on hT h0.below))
    clear h hb hz h0 hT ha hbb hkids hks hkn hk0 hk6 hk ih hu
    obtain ⟨c0, c1, c2, c3⟩ := box4 H0.out.box
    go_enter Tryd.func53, Tryd.ntmps53
    go_upto_region 1 with fail
    generalize w.alloc (.cells #[.int .i64 (k : Int), .string n.ta, .string n.tb, .slice ao n.kids.length cap] 52) = X at *
    generalize w.heap.size = R at *
    go_wp2_with fail
    refine HC.out.mono ?_
    rintro e y ⟨rfl, v0, k0, s0⟩
    have h0 := H0.out.on k0 s0
    have Hq := Lib.hid h0
    have HC0 := Lib.hid (text_any W.heap.size K v0 _ n.ta _ h0.kn (by have := HZ.out; rw [List.length_append]; omega) (by have := HS.out.1; omega) (tab_on HT.out h0.below))
    clear k0 s0 h0 HC H0 c0 c1 c2 c3
    obtain ⟨c0, c1, c2, c3⟩ := box4 Hq.out.box
    go_wp2_with fail
    refine HC0.out.mono ?_
    rintro e y ⟨rfl, v1, k1, s1⟩
    have h1 := Hq.out.on k1 s1
    have H1 := Lib.hid h1
    have HC1 := Lib.hid (text_any W.heap.size K v1 _ n.tb _ h1.kn (by have := HZ.out; rw [List.length_append, List.length_append]; omega) (by have := HS.out.2; omega) (tab_on HT.out h1.below))
    clear k1 s1 h1 HC0 Hq c0 c1 c2 c3
    obtain ⟨c0, c1, c2, c3⟩ := box4 H1.out.box
    go_wp2_with fail
    refine HC1.out.mono ?_
    rintro e y ⟨rfl, v2, k2, s2⟩
    have h2 := H1.out.on k2 s2
    have H2 := Lib.hid h2
    have HC2 := Lib.hid (tieN_any W HT.out nodeB nodeB_pos 53 enter_tieNode n.kids ao vs cap HK.out HI.out K v2 _ _ h2.kn h2.below (by have := HZ.out; rw [List.length_append, List.length_append, List.length_append]; omega))
    clear k2 s2 h2 HC1 H1 c0 c1 c2 c3
    obtain ⟨c0, c1, c2, c3⟩ := box4 H2.out.box
    go_wp2_with fail
    refine HC2.out.mono ?_
    rintro e y ⟨rfl, v3, k3, s3⟩
    have h3 := H2.out.on k3 s3
    have H3 := Lib.hid h3
    clear k3 s3 h3 HC2 H2 c0 c1 c2 c3
    go_wp2_with fail
    go_end0
    refine ⟨rfl, v3, ?_, H3.out.step⟩
    have := H3.out.kn
    rw [List.append_assoc, List.append_assoc, List.append_assoc] at this
    exact this

set_option maxHeartbeats 4000000 in
set_option maxRecDepth 100000 in
theorem tieRel_runs (W : World) (hT : Tab W.heap.size W) {big : Int} (r : Rl) (hr : okR big kidsP r) : Runs IsRl W 36 relB r := by
  rintro K v l w u h hu hb hz
  obtain ⟨ao, cap, no, nc, us, rfl, hla, hnd⟩ := hu
  obtain ⟨hnm, ⟨-, -, hal⟩, hex⟩ := hr
  rw [relB, List.length_append, List.length_append] at hz
  have h0 := Tb.start h hb #[.string r.name, .slice ao r.allow.length cap, .int .i64 r.expr.kind, .string r.expr.ta, .string r.expr.tb, .slice no r.expr.kids.length nc] tRl
  have H0 := Lib.hid h0
  have HT := Lib.hid hT
  have HA := Lib.hid (And.intro hla (And.intro hnd (And.intro hal hex)))
  have HZ := Lib.hid hz
  have HC := Lib.hid (text_any W.heap.size K v l r.name _ h0.kn (by omega) (by omega) (tab_on hT h0.below))
  clear h hb hz h0 hT hla hnd hal hex hnm
  obtain ⟨c0, c1, c2, c3, c4, c5⟩ := box6 H0.out.box
  go_enter Tryd.func36, Tryd.ntmps36
  go_upto_region 1 with fail
  generalize w.alloc (.cells #[.string r.name, .slice ao r.allow.length cap, .int .i64 r.expr.kind, .string r.expr.ta, .string r.expr.tb, .slice no r.expr.kids.length nc] 54) = X at *
  generalize w.heap.size = R at *
  go_wp2_with fail
  refine HC.out.mono ?_
  rintro e y ⟨rfl, v1, k1, s1⟩
  have h1 := H0.out.on k1 s1
  have H1 := Lib.hid h1
  have HC1 := Lib.hid (tieA_any W HT.out allowB allowB_pos 52 enter_tieAllow r.allow ao us cap HA.out.1 (fun a ha => tieAllow_runs W HT.out a (HA.out.2.2.1 a ha)) K v1 _ _ h1.kn h1.below (by have := HZ.out; rw [List.length_append]; omega))
  clear k1 s1 h1 HC H0 c0 c1 c2 c3 c4 c5
  obtain ⟨c0, c1, c2, c3, c4, c5⟩ := box6 H1.out.box
  go_wp2_with fail
  refine HC1.out.mono ?_
  rintro e y ⟨rfl, v2, k2, s2⟩
  have h2 := H1.out.on k2 s2
  have H2 := Lib.hid h2
  have HC2 := Lib.hid (tieNode_runs W HT.out 8 r.expr HA.out.2.2.2 K v2 _ _ _ h2.kn HA.out.2.1 h2.below (by have := HZ.out; rw [List.length_append, List.length_append]; omega))
  clear k2 s2 h2 HC1 H1 c0 c1 c2 c3 c4 c5
  obtain ⟨c0, c1, c2, c3, c4, c5⟩ := box6 H2.out.box
  go_wp2_with fail
  refine HC2.out.mono ?_
  rintro e y ⟨rfl, v3, k3, s3⟩
  have h3 := H2.out.on k3 s3
  have H3 := Lib.hid h3
  clear k3 s3 h3 HC2 H2 c0 c1 c2 c3 c4 c5
  go_wp2_with fail
  go_end0
  refine ⟨rfl, v3, ?_, H3.out.step⟩
  have := H3.out.kn
  rw [List.append_assoc, List.append_assoc] at this
  exact this

set_option maxHeartbeats 4000000 in
set_option maxRecDepth 100000 in
theorem tieType_runs (W : World) (hT : Tab W.heap.size W) {big : Int} (t : Ty) (ht : okT big kidsP t) : Runs IsTy W 21 typeB t := by
  rintro K v l w u h hu hb hz
  obtain ⟨ao, cap, us, rfl, hla⟩ := hu
  obtain ⟨hnm, -, -, hal⟩ := ht
  rw [typeB, List.length_append] at hz
  have h0 := Tb.start h hb #[.string t.name, .slice ao t.rels.length cap] tTy
  have H0 := Lib.hid h0
  have HT := Lib.hid hT
  have HA := Lib.hid (And.intro hla hal)
  have HZ := Lib.hid hz
  have HC := Lib.hid (text_any W.heap.size K v l t.name _ h0.kn (by omega) (by omega) (tab_on hT h0.below))
  clear h hb hz h0 hT hla hal hnm
  obtain ⟨c0, c1⟩ := box2 H0.out.box
  go_enter Tryd.func21, Tryd.ntmps21
  go_upto_region 1 with fail
  generalize w.alloc (.cells #[.string t.name, .slice ao t.rels.length cap] 38) = X at *
  generalize w.heap.size = R at *
  go_wp2_with fail
  refine HC.out.mono ?_
  rintro e y ⟨rfl, v1, k1, s1⟩
  have h1 := H0.out.on k1 s1
  have H1 := Lib.hid h1
  have HC1 := Lib.hid (tieR_any W HT.out relB relB_pos 36 enter_tieRel t.rels ao us cap HA.out.1 (fun a ha => tieRel_runs W HT.out a (HA.out.2 a ha)) K v1 _ _ h1.kn h1.below (by have := HZ.out; rw [List.length_append]; omega))
  clear k1 s1 h1 HC H0 c0 c1
  obtain ⟨c0, c1⟩ := box2 H1.out.box
  go_wp2_with fail
  refine HC1.out.mono ?_
  rintro e y ⟨rfl, v2, k2, s2⟩
  have h2 := H1.out.on k2 s2
  have H2 := Lib.hid h2
  clear k2 s2 h2 HC1 H1 c0 c1
  go_wp2_with fail
  go_end0
  refine ⟨rfl, v2, ?_, H2.out.step⟩
  have := H2.out.kn
  rw [List.append_assoc] at this
  exact this

/-! ### Pack -/
/-- What Pack answers. -/
def Pkd (l : List Ty) (w : World) (e : Ending) (x : World) : Prop :=
  Below w.heap.size w x ∧ ((Cn.gC l = false ∧ e = .returned (.tuple #[.slice none 0 0, .int .i64 2])) ∨
    (Cn.gC l = true ∧ ∃ g cap, e = .returned (.tuple #[.slice (some ⟨g, 0, none⟩) (confB l).length cap, .int .i64 0]) ∧ x.ownsRow w.heap.size 5 1 (.slice (some ⟨g, 0, none⟩) (confB l).length cap) (confB l).length (Lib.byteCells (confB l))))
set_option maxHeartbeats 4000000 in
set_option maxRecDepth 100000 in
theorem pack_any (l : List Ty) (v : Value) (w : World) (h : IsCf w l v) (hT : Tab w.heap.size w) (hz : Cn.gC l = true → (confB l).length ≤ 60000000) :
    Calls Tryd.prog 8 #[v] w (Pkd l w) := by
  obtain ⟨ao, cap, us, rfl, hl⟩ := h
  have al := Tr.fresh_one w (.cells #[.slice ao l.length cap] tCf)
  have hk := heap_alloc_new w (.cells #[.slice ao l.length cap] tCf)
  have hcf : IsCf (w.alloc (.cells #[.slice ao l.length cap] tCf)) l (.agg #[.slice ao l.length cap]) := ⟨ao, cap, us, rfl, hl.on al fun _ _ h => h.below al⟩
  have HG := Lib.hid (Cn.Good_any l _ _ hcf)
  have H0 := Lib.hid (And.intro al (And.intro hk (hl.on al fun _ _ h => h.below al)))
  have HT := Lib.hid hT
  have HZ := Lib.hid hz
  clear al hk hl hcf hT hz
  have b0 := Gr.box1 H0.out.2.1
  go_enter Tryd.func8, Tryd.ntmps8
  go_upto_region 1 with fail
  generalize w.alloc (.cells #[.slice ao l.length cap] 26) = X at *
  go_wp2_with fail
  refine HG.out.mono ?_
  rintro e x1 ⟨rfl, hx⟩
  have H1 := Lib.hid (And.intro (H0.out.1.trans (hx.mono H0.out.1.size)) (And.intro ((hx.block _ (Array.getElem?_eq_some_iff.1 H0.out.2.1).1).trans H0.out.2.1) (H0.out.2.2.on hx fun _ _ h => h.below hx)))
  clear hx b0 HG H0
  cases hg : Cn.gC l with
  | false =>
    have HGF := Lib.hid hg
    clear hg
    go_wp2_with fail
    go_ret2
    exact ⟨H1.out.1, .inl ⟨HGF.out, rfl⟩⟩
  | true =>
    have HGT := Lib.hid hg
    have HN := Lib.hid (Knot.new_any x1)
    clear hg
    go_wp2_with fail
    refine HN.out.mono ?_
    rintro e x2 ⟨K, rfl, hK, hkn, hb2⟩
    have htab : Tab x1.heap.size x1 := Knot.tab_up HT.out H1.out.1
    have hz := HZ.out HGT.out
    have hok : okC ((confB l).length : Int) kidsP l := good_okC kids_lim HGT.out (conf_lens l) (by omega) (Int.le_refl _)
    have HC := Lib.hid (tieT_any x1 htab typeB typeB_pos 21 enter_tieType l ao us cap H1.out.2.2 (fun t ht => tieType_runs x1 htab t (hok.2.2 t ht)) K _ [] x2 hkn hb2 (by rw [List.length_nil, Nat.zero_add]; exact hz))
    have b0 := Gr.box1 ((hb2.block _ (Array.getElem?_eq_some_iff.1 H1.out.2.1).1).trans H1.out.2.1)
    have H2 := Lib.hid (And.intro hb2 hkn)
    have HZ2 := Lib.hid hz
    clear hK hkn hb2 htab hz hok HN
    go_wp2_with fail
    refine HC.out.mono ?_
    rintro e x3 ⟨rfl, v3, k3, s3⟩
    rw [List.nil_append] at k3
    have hb3 : Below x1.heap.size x1 x3 := H2.out.1.trans (s3.below H2.out.2)
    have HB := Lib.hid (Knot.bytes_any x1.heap.size K v3 (confB l) x3 k3 (fun e => by have := listB_len typeB_pos l; rw [show listB typeB l = confB l from rfl, e] at this; simp at this) (by have := HZ2.out; omega))
    have H3 := Lib.hid (H1.out.1.trans (hb3.mono H1.out.1.size))
    clear k3 s3 hb3 HC H2 b0
    go_wp2_with fail
    refine HB.out.mono ?_
    rintro e x4 ⟨g, cp, rfl, ho, hb4⟩
    have H4 := Lib.hid (And.intro (H3.out.trans (hb4.mono H3.out.size)) (Sg.own_mono ho H3.out.size))
    clear ho hb4 HB
    go_wp2_with fail
    go_ret2
    exact ⟨H4.out.1, .inr ⟨HGT.out, g, cp, rfl, H4.out.2⟩⟩
end Ck
end Go.Proofs.YtopncohhagebbaaDoor
