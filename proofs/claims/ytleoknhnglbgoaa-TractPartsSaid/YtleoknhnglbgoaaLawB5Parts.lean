/-
  The statement TractParts at every two nodes.
-/
import Derived.Test.YtleoknhnglbgoaaTrPair
import Derived.Test.YtleoknhnglbgoaaTrGood
import Derived.Test.YtleoknhnglbgoaaOrder
import Derived.Test.YtleoknhnglbgoaaClass
namespace Go.Proofs.Ytleoknhnglbgoaa
open Go.RowKit
namespace Tr
open Who (wp_region_class quiet_of)

set_option maxHeartbeats 8000000 in
set_option maxRecDepth 100000 in
theorem parts_union (a b : Nd) (va vb : Value) (w : World) (hna : IsNode w a va) (hnb : IsNode w b vb) :
    Calls Try.prog 6 #[va, vb, .bool false] w fun e x => e = .returned (.bool true) ∧ Below w.heap.size w x := by
  obtain ⟨ao, ac, avs, rfl, ⟨as1, as2⟩, -⟩ := hna.kids
  obtain ⟨bo, bc, bvs, rfl, ⟨bs1, bs2⟩, -⟩ := hnb.kids
  have HN := Lib.hid (And.intro (fun x (hx : Below w.heap.size w x) => hna.below hx) (fun x (hx : Below w.heap.size w x) => hnb.below hx))
  have HA := Lib.hid (fun x => awake_any x)
  have HFa := Lib.hid (fun x hx => few_any a _ x (HN.out.1 x hx))
  have HFb := Lib.hid (fun x hx => few_any b _ x (HN.out.2 x hx))
  have HGa := Lib.hid (fun (hz : size a ≤ 300) x hx => rgood_any (size a) a _ x (Nat.le_refl _) hz (HN.out.1 x hx))
  have HGb := Lib.hid (fun (hz : size b ≤ 300) x hx => rgood_any (size b) b _ x (Nat.le_refl _) hz (HN.out.2 x hx))
  have H0 := Lib.hid (Two.new (w := w) (ka := a.kind) (a1 := a.ta) (a2 := a.tb) (sa := .slice ao a.kids.length ac) (kb := b.kind) (b1 := b.ta) (b2 := b.tb) (sb := .slice bo b.kids.length bc))
  clear hna hnb
  go_enter Try.func6, Try.ntmps6
  go_wp2_with fail
  refine (HA.out _).mono ?_
  rintro e x1 ⟨rfl, hx⟩
  have H1 := Lib.hid (H0.out.on hx)
  obtain ⟨⟨a0, a1, a2, a3⟩, b0, b1, b2, b3⟩ := H1.out.cells
  clear hx H0
  go_wp2_with fail
  refine (HFa.out _ H1.out.1).mono ?_
  rintro e x2 ⟨he, hx⟩
  have H2 := Lib.hid (H1.out.on hx)
  clear hx H1 a0 a1 a2 a3 b0 b1 b2 b3
  by_cases hza : size a ≤ 300
  rotate_left
  · rw [decide_eq_false hza] at he
    subst he
    clear hza
    go_wp2_with fail
    refine (HA.out _).mono ?_
    rintro e x3 ⟨rfl, hx⟩
    have H3 := Lib.hid (H2.out.on hx)
    clear hx
    go_wp2_with fail
    go_ret
    exact ⟨rfl, H3.out.1⟩
  rw [decide_eq_true hza] at he
  subst he
  obtain ⟨⟨a0, a1, a2, a3⟩, b0, b1, b2, b3⟩ := H2.out.cells
  go_wp2_with fail
  refine (HFb.out _ H2.out.1).mono ?_
  rintro e x3 ⟨he, hx⟩
  have H3 := Lib.hid (H2.out.on hx)
  clear hx H2 a0 a1 a2 a3 b0 b1 b2 b3
  by_cases hzb : size b ≤ 300
  rotate_left
  · rw [decide_eq_false hzb] at he
    subst he
    clear hza hzb
    go_wp2_with fail
    refine (HA.out _).mono ?_
    rintro e x4 ⟨rfl, hx⟩
    have H4 := Lib.hid (H3.out.on hx)
    clear hx
    go_wp2_with fail
    go_ret
    exact ⟨rfl, H4.out.1⟩
  rw [decide_eq_true hzb] at he
  subst he
  obtain ⟨⟨a0, a1, a2, a3⟩, b0, b1, b2, b3⟩ := H3.out.cells
  go_wp2_with fail
  refine (HGa.out hza _ H3.out.1).mono ?_
  rintro e x4 ⟨he, hx⟩
  have H4 := Lib.hid (H3.out.on hx)
  clear hx H3 a0 a1 a2 a3 b0 b1 b2 b3
  cases hga : good a with
  | false =>
    rw [hga] at he
    subst he
    clear hza hzb
    go_wp2_with fail
    refine (HA.out _).mono ?_
    rintro e x5 ⟨rfl, hx⟩
    have H5 := Lib.hid (H4.out.on hx)
    clear hx
    go_wp2_with fail
    go_ret
    exact ⟨rfl, H5.out.1⟩
  | true =>
  rw [hga] at he
  subst he
  obtain ⟨⟨a0, a1, a2, a3⟩, b0, b1, b2, b3⟩ := H4.out.cells
  go_wp2_with fail
  refine (HGb.out hzb _ H4.out.1).mono ?_
  rintro e x5 ⟨he, hx⟩
  have H5 := Lib.hid (H4.out.on hx)
  clear hx H4 a0 a1 a2 a3 b0 b1 b2 b3
  cases hgb : good b with
  | false =>
    rw [hgb] at he
    subst he
    clear hza hzb
    go_wp2_with fail
    refine (HA.out _).mono ?_
    rintro e x6 ⟨rfl, hx⟩
    have H6 := Lib.hid (H5.out.on hx)
    clear hx
    go_wp2_with fail
    go_ret
    exact ⟨rfl, H6.out.1⟩
  | true =>
  rw [hgb] at he
  subst he
  obtain ⟨⟨a0, a1, a2, a3⟩, b0, b1, b2, b3⟩ := H5.out.cells
  clear HFa HFb HGa HGb HA
  go_wp2_with fail
  have h0 : x5.heap.size = (x5.alloc (.cells #[.int .i64 a.kind, .string a.ta, .string a.tb, .slice ao a.kids.length ac, .int .i64 b.kind, .string b.ta, .string b.tb, .slice bo b.kids.length bc] 24)).heap.size - 1 := by simp
  obtain ⟨y, hy⟩ : ∃ y, y = (x5.alloc (.cells #[.int .i64 a.kind, .string a.ta, .string a.tb, .slice ao a.kids.length ac, .int .i64 b.kind, .string b.ta, .string b.tb, .slice bo b.kids.length bc] 24)).alloc (.cells #[.int .i64 4, .string ⟨#[]⟩, .string ⟨#[]⟩, .slice (some ⟨x5.heap.size, 0, none⟩) 2 2] 24) := ⟨_, rfl⟩
  rw [← hy]
  have hT : Two w a.kind a.ta a.tb (.slice ao a.kids.length ac) b.kind b.ta b.tb (.slice bo b.kids.length bc) y := by
    rw [hy]
    exact H5.out.on ((fresh_one x5 _).alloc (by simp) _)
  have hB7 : Box4 (x5.heap.size + 1) 4 ⟨#[]⟩ ⟨#[]⟩ (.slice (some ⟨x5.heap.size, 0, none⟩) 2 2) y := by
    have := Box4.new (x5.alloc (.cells #[.int .i64 a.kind, .string a.ta, .string a.tb, .slice ao a.kids.length ac, .int .i64 b.kind, .string b.ta, .string b.tb, .slice bo b.kids.length bc] 24)) 4 ⟨#[]⟩ ⟨#[]⟩ (.slice (some ⟨x5.heap.size, 0, none⟩) 2 2)
    rw [World.size_alloc] at this
    rw [hy]
    exact this
  have hrow : y.heap[x5.heap.size]? = some (.cells #[.int .i64 a.kind, .string a.ta, .string a.tb, .slice ao a.kids.length ac, .int .i64 b.kind, .string b.ta, .string b.tb, .slice bo b.kids.length bc] 24 (0, 0)) := by
    rw [hy]
    exact ((fresh_one _ _).block x5.heap.size (by simp)).trans (heap_alloc_new x5 _)
  have s0 : (⟨#[]⟩ : ByteArray).size ≤ maxLen := short (by decide)
  have hNN : IsNode y (.mk 4 none0 none0 [a, b]) (node4 4 ⟨#[]⟩ ⟨#[]⟩ (.slice (some ⟨x5.heap.size, 0, none⟩) 2 2)) := node_two s0 s0 hrow (HN.out.1 _ hT.1) (HN.out.2 _ hT.1)
  have HY := Lib.hid (show ∀ x, Below y.heap.size y x → Two w a.kind a.ta a.tb (.slice ao a.kids.length ac) b.kind b.ta b.tb (.slice bo b.kids.length bc) x ∧ Box4 (x5.heap.size + 1) 4 ⟨#[]⟩ ⟨#[]⟩ (.slice (some ⟨x5.heap.size, 0, none⟩) 2 2) x ∧ IsNode x (.mk 4 none0 none0 [a, b]) (node4 4 ⟨#[]⟩ ⟨#[]⟩ (.slice (some ⟨x5.heap.size, 0, none⟩) 2 2)) from
    fun x hx => ⟨hT.on hx, hB7.on hx, hNN.below hx⟩)
  clear h0 hy hT hB7 hrow hNN s0 H5 a0 a1 a2 a3 b0 b1 b2 b3
  generalize x5.heap.size = G at *
  have hda : depth a ≤ 300 := Nat.le_trans (depth_le a) hza
  have hdb : depth b ≤ 300 := Nat.le_trans (depth_le b) hzb
  have hzn : size (.mk 4 none0 none0 [a, b]) ≤ 900 := by rw [pair_size]; omega
  have hgn : good (.mk 4 none0 none0 [a, b]) = true := pair_good (by omega) hga hgb
  have HG := Lib.hid (show ∀ x, Below y.heap.size y x → Calls Try.prog 19 #[node4 4 ⟨#[]⟩ ⟨#[]⟩ (.slice (some ⟨G, 0, none⟩) 2 2)] x fun e z => e = .returned (.bool true) ∧ Below x.heap.size x z from fun x hx => by
    have := good_any _ _ x hzn (HY.out x hx).2.2
    rwa [hgn] at this)
  have HSn := Lib.hid (show ∀ x, Below y.heap.size y x → Calls Try.prog 20 #[node4 4 ⟨#[]⟩ ⟨#[]⟩ (.slice (some ⟨G, 0, none⟩) 2 2)] x fun e z => e = .returned (.int .i64 (1 + (size a : Int) + (size b : Int))) ∧ Below x.heap.size x z from fun x hx => by
    have := size_any _ _ x hzn (HY.out x hx).2.2
    rw [pair_size] at this
    simpa using this)
  have HDn := Lib.hid (show ∀ x, Below y.heap.size y x → Calls Try.prog 21 #[node4 4 ⟨#[]⟩ ⟨#[]⟩ (.slice (some ⟨G, 0, none⟩) 2 2)] x fun e z => e = .returned (.int .i64 (1 + max (depth a : Int) (depth b : Int))) ∧ Below x.heap.size x z from fun x hx => by
    have := depth_any _ _ x hzn (HY.out x hx).2.2
    rw [pair_depth] at this
    have e : (((1 + max (depth a) (depth b) : Nat)) : Int) = 1 + max (depth a : Int) (depth b : Int) := by omega
    rwa [e] at this)
  have HSa := Lib.hid (fun x (hx : Below y.heap.size y x) => size_any a _ x (by omega) (HN.out.1 x (HY.out x hx).1.1))
  have HSb := Lib.hid (fun x (hx : Below y.heap.size y x) => size_any b _ x (by omega) (HN.out.2 x (HY.out x hx).1.1))
  have HDa := Lib.hid (fun x (hx : Below y.heap.size y x) => depth_any a _ x (by omega) (HN.out.1 x (HY.out x hx).1.1))
  have HDb := Lib.hid (fun x (hx : Below y.heap.size y x) => depth_any b _ x (by omega) (HN.out.2 x (HY.out x hx).1.1))
  have w1 : IntKind.i64.wrap (1 + (size a : Int)) = 1 + (size a : Int) := by rw [IntKind.wrap_i64]; omega
  have w2 : IntKind.i64.wrap (1 + (size a : Int) + (size b : Int)) = 1 + (size a : Int) + (size b : Int) := by rw [IntKind.wrap_i64]; omega
  have w3 : IntKind.i64.wrap (1 + max (depth a : Int) (depth b : Int)) = 1 + max (depth a : Int) (depth b : Int) := by rw [IntKind.wrap_i64]; omega
  refine wp_region_class (C := fun x => Below y.heap.size y x) (by kernel_rfl) (by kernel_rfl) (Below.refl _ _).drew ?_
  repeat (first
    | go_big_quiet_skip
    | (go_big_quiet_want
       apply quiet_of
       · intro x hx
         obtain ⟨⟨a0, a1, a2, a3⟩, b0, b1, b2, b3⟩ := (HY.out x hx).1.cells
         obtain ⟨n0, n1, n2, n3⟩ := (HY.out x hx).2.1.cells
         first
           | (go_simp; rfl)
           | (clear a0 a1 a2 a3 b0 b1 b2 b3 n0 n1 n2 n3; go_simp; go_at_call 19; with_reducible refine (HG.out x hx).mono ?_; rintro e z ⟨rfl, hz⟩; exact ⟨rfl, hx.trans (hz.mono hx.size)⟩)
           | (clear a0 a1 a2 a3 b0 b1 b2 b3 n0 n1 n2 n3; go_simp; go_at_call 20; with_reducible refine (HSn.out x hx).mono ?_; rintro e z ⟨rfl, hz⟩; exact ⟨rfl, hx.trans (hz.mono hx.size)⟩)
           | (clear a0 a1 a2 a3 b0 b1 b2 b3 n0 n1 n2 n3; go_simp; go_at_call 20; with_reducible refine (HSa.out x hx).mono ?_; rintro e z ⟨rfl, hz⟩; exact ⟨rfl, hx.trans (hz.mono hx.size)⟩)
           | (clear a0 a1 a2 a3 b0 b1 b2 b3 n0 n1 n2 n3; go_simp; go_at_call 20; with_reducible refine (HSb.out x hx).mono ?_; rintro e z ⟨rfl, hz⟩; exact ⟨rfl, hx.trans (hz.mono hx.size)⟩)
           | (clear a0 a1 a2 a3 b0 b1 b2 b3 n0 n1 n2 n3; go_simp; go_at_call 21; with_reducible refine (HDn.out x hx).mono ?_; rintro e z ⟨rfl, hz⟩; exact ⟨rfl, hx.trans (hz.mono hx.size)⟩)
           | (clear a0 a1 a2 a3 b0 b1 b2 b3 n0 n1 n2 n3; go_simp; go_at_call 21; with_reducible refine (HDa.out x hx).mono ?_; rintro e z ⟨rfl, hz⟩; exact ⟨rfl, hx.trans (hz.mono hx.size)⟩)
           | (clear a0 a1 a2 a3 b0 b1 b2 b3 n0 n1 n2 n3; go_simp; go_at_call 21; with_reducible refine (HDb.out x hx).mono ?_; rintro e z ⟨rfl, hz⟩; exact ⟨rfl, hx.trans (hz.mono hx.size)⟩)
       simp only [Act.put, List.setIfInBounds_toArray, List.set_cons_zero, List.set_cons_succ]
       go_big_quiet_on))
  refine wpQuiet_nil ?_
  intro x6 hx
  have H6 := Lib.hid (And.intro hx (HY.out x6 hx))
  have HBn := Lib.hid (fun x (hx : Below y.heap.size y x) => Build_any _ _ x hzn (HY.out x hx).2.2)
  clear hx HG HSn HDn HSa HSb HDa HDb w1 w2 w3
  obtain ⟨n0, n1, n2, n3⟩ := H6.out.2.2.1.cells
  go_wp2_with fail
  refine (HBn.out x6 H6.out.1).mono ?_
  rintro e x7 ⟨hb7, ⟨hne, rfl⟩ | ⟨he0, u, rfl, hu⟩⟩
  · have hE : errOf (.mk 4 none0 none0 [a, b]) = 3 ∨ errOf (.mk 4 none0 none0 [a, b]) = 12 := by
      rcases err_cases (.mk 4 none0 none0 [a, b]) with ⟨-, h⟩ | ⟨h, -⟩ | ⟨h, -⟩ | ⟨h, -⟩
      · rw [hgn] at h; cases h
      · exact .inl h
      · exact .inr h
      · exact absurd h hne
    have H7 := Lib.hid (H6.out.2.1.on hb7)
    clear hb7 hne HBn HY HN H6 n0 n1 n2 n3 hzn hgn hza hzb hda hdb
    generalize errOf (.mk 4 none0 none0 [a, b]) = E at *
    rcases hE with rfl | rfl
    · go_wp2_with fail
      go_ret
      exact ⟨rfl, H7.out.1⟩
    · go_wp2_with fail
      go_ret
      exact ⟨rfl, H7.out.1⟩
  obtain ⟨ut, uv, rfl⟩ := hu.iface
  have hs24 : size (.mk 4 none0 none0 [a, b]) ≤ 24 ∧ depth (.mk 4 none0 none0 [a, b]) ≤ 8 := by
    rcases err_cases (.mk 4 none0 none0 [a, b]) with ⟨h, -⟩ | ⟨h, -⟩ | ⟨h, -⟩ | ⟨-, -, h⟩
    · omega
    · omega
    · omega
    · exact h
  have hsd := hs24
  rw [pair_size, pair_depth] at hsd
  have ea : errOf a = 0 := err_zero hga (by omega) (by omega)
  have eb : errOf b = 0 := err_zero hgb (by omega) (by omega)
  have HBa := Lib.hid (fun x (hx : Below w.heap.size w x) => Build_any a _ x (by omega) (HN.out.1 x hx))
  have HBb := Lib.hid (fun x (hx : Below w.heap.size w x) => Build_any b _ x (by omega) (HN.out.2 x hx))
  rw [ea] at HBa
  rw [eb] at HBb
  have H7 := Lib.hid (And.intro (H6.out.2.1.on hb7) (hu.mono (Nat.zero_le _)))
  have HP := Lib.hid (And.intro hga (And.intro hgb (And.intro hgn (And.intro hza (And.intro hzb (Nat.le_trans hs24.1 (by omega : 24 ≤ 300)))))))
  clear hb7 hu he0 hs24 hsd ea eb HBn HY HN H6 n0 n1 n2 n3 hzn hgn hza hzb hda hdb hga hgb as1 as2 bs1 bs2
  obtain ⟨⟨a0, a1, a2, a3⟩, b0, b1, b2, b3⟩ := H7.out.1.cells
  go_wp2_with fail
  refine (HBa.out _ H7.out.1.1).mono ?_
  rintro e x8 ⟨hb, ⟨hne, -⟩ | ⟨-, ua, rfl, hua⟩⟩
  · exact absurd rfl hne
  obtain ⟨uat, uav, rfl⟩ := hua.iface
  have H8 := Lib.hid (And.intro (H7.out.1.on hb) (And.intro (H7.out.2.below hb) (hua.mono (Nat.zero_le _))))
  clear hb hua HBa H7 a0 a1 a2 a3 b0 b1 b2 b3
  obtain ⟨⟨a0, a1, a2, a3⟩, b0, b1, b2, b3⟩ := H8.out.1.cells
  go_wp2_with fail
  refine (HBb.out _ H8.out.1.1).mono ?_
  rintro e x9 ⟨hb, ⟨hne, -⟩ | ⟨-, ub, rfl, hub⟩⟩
  · exact absurd rfl hne
  obtain ⟨ubt, ubv, rfl⟩ := hub.iface
  have H9 := Lib.hid (And.intro (H8.out.1.on hb).1 (And.intro (H8.out.2.1.below hb) (And.intro (H8.out.2.2.below hb) (hub.mono (Nat.zero_le _)))))
  clear hb hub HBb H8 a0 a1 a2 a3 b0 b1 b2 b3
  go_wp2_with fail
  refine (refs_any a _ x9 HP.out.2.2.2.1 HP.out.1 H9.out.2.2.1).mono ?_
  rintro e x10 ⟨v10, rfl, hr10, hb10⟩
  obtain ⟨ro, rc, rfl⟩ := own_slice hr10
  have H10 := Lib.hid (And.intro hr10 hb10)
  clear hr10 hb10
  go_wp2_with fail
  refine (refs_any b _ x10 HP.out.2.2.2.2.1 HP.out.2.1 (H9.out.2.2.2.below H10.out.2)).mono ?_
  rintro e x11 ⟨v11, rfl, hr11, hb11⟩
  obtain ⟨so, sc, rfl⟩ := own_slice hr11
  have H11 := Lib.hid (show RefsAt x9.heap.size x11 (.slice ro (refs a false).length rc) (refs a false) ∧ RefsAt x10.heap.size x11 (.slice so (refs b false).length sc) (refs b false) ∧ Below x9.heap.size x9 x11 from
    ⟨own_below H10.out.1 hb11, hr11, H10.out.2.trans (hb11.mono H10.out.2.size)⟩)
  have hla : (refs a false).length ≤ 300 := Nat.le_trans (refs_len a false) HP.out.2.2.2.1
  have hlb : (refs b false).length ≤ 300 := Nat.le_trans (refs_len b false) HP.out.2.2.2.2.1
  clear hr11 hb11 H10
  go_wp2_with (at_builtin; refine walk_join rfl _ _ rfl rfl rfl H11.out.1 H11.out.2.1 H11.out.2.2.size (by omega) ?_)
  intro v12 x12 hr12 hb12
  obtain ⟨l, hl⟩ : ∃ l, l = refs a false ++ refs b false := ⟨_, rfl⟩
  rw [← hl] at hr12
  obtain ⟨po, pc, rfl⟩ := own_slice hr12
  have h12 : Below x9.heap.size x9 x12 := H11.out.2.2.trans hb12
  have hll : l.length ≤ 600 := by rw [hl, List.length_append]; omega
  have H12 := Lib.hid (And.intro hr12 (And.intro (H9.out.1.trans (h12.mono H9.out.1.size)) (And.intro (H9.out.2.1.below h12) (And.intro (H9.out.2.2.1.below h12) (H9.out.2.2.2.below h12)))))
  have HR := Lib.hid (refs_any _ _ x12 HP.out.2.2.2.2.2 HP.out.2.2.1 H12.out.2.2.1)
  rw [pair_refs a b (by omega), ← hl] at HR
  clear hl hr12 hb12 h12 H11 hla hlb H9
  go_wp2_with fail
  refine HR.out.mono ?_
  rintro e x13 ⟨v13, rfl, hr13, hb13⟩
  obtain ⟨qo, qc, rfl⟩ := own_slice hr13
  have H13 := Lib.hid (show RefsAt x12.heap.size x13 (.slice qo l.length qc) l ∧ RefsAt x9.heap.size x13 (.slice po l.length pc) l ∧ Below w.heap.size w x13 ∧ IsExpr 0 x13 (.mk 4 none0 none0 [a, b]) (.iface ut uv) ∧ IsExpr 0 x13 a (.iface uat uav) ∧ IsExpr 0 x13 b (.iface ubt ubv) from
    ⟨hr13, own_below H12.out.1 hb13, H12.out.2.1.trans (hb13.mono H12.out.2.1.size), H12.out.2.2.1.below hb13, H12.out.2.2.2.1.below hb13, H12.out.2.2.2.2.below hb13⟩)
  clear hr13 hb13 H12 HR
  go_wp2_with fail
  go_loopw [114] (fun i wr => ∃ j : Nat, j ≤ l.length ∧ i = .int .i64 j ∧ Hid (Below x13.heap.size x13 wr)) (fun i _ => l.length - (intOf i).toNat)
  case atStart => exact ⟨0, by omega, rfl, Below.refl _ _⟩
  case round =>
    obtain ⟨j, hj, rfl, HJ⟩ := hrel
    by_cases hlt : j < l.length
    · obtain ⟨g, q, hix, hgb, hc⟩ := ref_at H13.out.1 hlt
      obtain ⟨g', q', hix', hgb', hc'⟩ := ref_at H13.out.2.1 hlt
      have HC := Lib.hid (show ∀ x, Below x13.heap.size x13 x → RefCells x g q l[j] ∧ RefCells x g' q' l[j] from fun x hx => ⟨hc.on hgb hx, hc'.on hgb' hx⟩)
      have hj3 : j ≤ 600 := by omega
      clear hc hc' hgb hgb'
      generalize l[j] = r at *
      go_wp2_with fail
      refine wp_region_class (C := fun x => Below x13.heap.size x13 x) (by kernel_rfl) (by kernel_rfl) HJ.out.drew ?_
      repeat (first
        | go_big_quiet_skip
        | (go_big_quiet_want
           apply quiet_of
           · intro x hx
             obtain ⟨⟨c0, c1, c2⟩, d0, d1, d2⟩ := HC.out x hx
             go_simp
             rfl
           simp only [Act.put, List.setIfInBounds_toArray, List.set_cons_zero, List.set_cons_succ]
           go_big_quiet_on))
      refine wpQuiet_nil ?_
      intro x hx
      have HX := Lib.hid hx
      clear hx HC
      go_wp2_with fail
      go_roundw
      case rel => exact ⟨j + 1, by omega, by go_num, HX⟩
      case measure => simp [intOf]; omega
    · have hj' : j = l.length := by omega
      have hb13 := HJ.out
      have H14 := Lib.hid (And.intro (H13.out.2.2.1.trans (hb13.mono H13.out.2.2.1.size)) (And.intro (H13.out.2.2.2.1.below hb13) (And.intro (H13.out.2.2.2.2.1.below hb13) (H13.out.2.2.2.2.2.below hb13))))
      have HDn := Lib.hid (fun x (hx : Below wr.heap.size wr x) => direct_any _ _ true x HP.out.2.2.2.2.2 HP.out.2.2.1 (H14.out.2.1.below hx))
      have HDa := Lib.hid (fun x (hx : Below wr.heap.size wr x) => direct_any _ _ true x HP.out.2.2.2.1 HP.out.1 (H14.out.2.2.1.below hx))
      have HDb := Lib.hid (fun x (hx : Below wr.heap.size wr x) => direct_any _ _ true x HP.out.2.2.2.2.1 HP.out.2.1 (H14.out.2.2.2.below hx))
      rw [pair_direct a b (by omega)] at HDn
      subst hj'
      clear hb13 H13 HJ
      generalize direct a true false = da at *
      generalize direct b true false = db at *
      cases da with
      | true =>
        simp only [Bool.true_or] at HDn
        go_wp2_with fail
        refine (HDn.out _ (Below.refl _ _)).mono ?_
        rintro e y1 ⟨rfl, h1⟩
        go_wp2_with fail
        refine (HDa.out _ h1).mono ?_
        rintro e y2 ⟨rfl, h2⟩
        have HX := Lib.hid (H14.out.1.trans ((h1.trans (h2.mono h1.size)).mono H14.out.1.size))
        clear h1 h2 HDn HDa HDb
        go_wp2_with fail
        go_ret
        exact ⟨rfl, HX.out⟩
      | false =>
        simp only [Bool.false_or] at HDn
        go_wp2_with fail
        refine (HDn.out _ (Below.refl _ _)).mono ?_
        rintro e y1 ⟨rfl, h1⟩
        go_wp2_with fail
        refine (HDa.out _ h1).mono ?_
        rintro e y2 ⟨rfl, h2⟩
        have h12 := h1.trans (h2.mono h1.size)
        go_wp2_with fail
        refine (HDb.out _ h12).mono ?_
        rintro e y3 ⟨rfl, h3⟩
        have HX := Lib.hid (H14.out.1.trans ((h12.trans (h3.mono h12.size)).mono H14.out.1.size))
        clear h1 h2 h3 h12 HDn HDa HDb
        go_wp2_with fail
        go_ret
        exact ⟨by simp, HX.out⟩
set_option maxHeartbeats 8000000 in
set_option maxRecDepth 100000 in
theorem parts_meet (a b : Nd) (va vb : Value) (w : World) (hna : IsNode w a va) (hnb : IsNode w b vb) :
    Calls Try.prog 6 #[va, vb, .bool true] w fun e x => e = .returned (.bool true) ∧ Below w.heap.size w x := by
  obtain ⟨ao, ac, avs, rfl, ⟨as1, as2⟩, -⟩ := hna.kids
  obtain ⟨bo, bc, bvs, rfl, ⟨bs1, bs2⟩, -⟩ := hnb.kids
  have HN := Lib.hid (And.intro (fun x (hx : Below w.heap.size w x) => hna.below hx) (fun x (hx : Below w.heap.size w x) => hnb.below hx))
  have HA := Lib.hid (fun x => awake_any x)
  have HFa := Lib.hid (fun x hx => few_any a _ x (HN.out.1 x hx))
  have HFb := Lib.hid (fun x hx => few_any b _ x (HN.out.2 x hx))
  have HGa := Lib.hid (fun (hz : size a ≤ 300) x hx => rgood_any (size a) a _ x (Nat.le_refl _) hz (HN.out.1 x hx))
  have HGb := Lib.hid (fun (hz : size b ≤ 300) x hx => rgood_any (size b) b _ x (Nat.le_refl _) hz (HN.out.2 x hx))
  have H0 := Lib.hid (Two.new (w := w) (ka := a.kind) (a1 := a.ta) (a2 := a.tb) (sa := .slice ao a.kids.length ac) (kb := b.kind) (b1 := b.ta) (b2 := b.tb) (sb := .slice bo b.kids.length bc))
  clear hna hnb
  go_enter Try.func6, Try.ntmps6
  go_wp2_with fail
  refine (HA.out _).mono ?_
  rintro e x1 ⟨rfl, hx⟩
  have H1 := Lib.hid (H0.out.on hx)
  obtain ⟨⟨a0, a1, a2, a3⟩, b0, b1, b2, b3⟩ := H1.out.cells
  clear hx H0
  go_wp2_with fail
  refine (HFa.out _ H1.out.1).mono ?_
  rintro e x2 ⟨he, hx⟩
  have H2 := Lib.hid (H1.out.on hx)
  clear hx H1 a0 a1 a2 a3 b0 b1 b2 b3
  by_cases hza : size a ≤ 300
  rotate_left
  · rw [decide_eq_false hza] at he
    subst he
    clear hza
    go_wp2_with fail
    refine (HA.out _).mono ?_
    rintro e x3 ⟨rfl, hx⟩
    have H3 := Lib.hid (H2.out.on hx)
    clear hx
    go_wp2_with fail
    go_ret
    exact ⟨rfl, H3.out.1⟩
  rw [decide_eq_true hza] at he
  subst he
  obtain ⟨⟨a0, a1, a2, a3⟩, b0, b1, b2, b3⟩ := H2.out.cells
  go_wp2_with fail
  refine (HFb.out _ H2.out.1).mono ?_
  rintro e x3 ⟨he, hx⟩
  have H3 := Lib.hid (H2.out.on hx)
  clear hx H2 a0 a1 a2 a3 b0 b1 b2 b3
  by_cases hzb : size b ≤ 300
  rotate_left
  · rw [decide_eq_false hzb] at he
    subst he
    clear hza hzb
    go_wp2_with fail
    refine (HA.out _).mono ?_
    rintro e x4 ⟨rfl, hx⟩
    have H4 := Lib.hid (H3.out.on hx)
    clear hx
    go_wp2_with fail
    go_ret
    exact ⟨rfl, H4.out.1⟩
  rw [decide_eq_true hzb] at he
  subst he
  obtain ⟨⟨a0, a1, a2, a3⟩, b0, b1, b2, b3⟩ := H3.out.cells
  go_wp2_with fail
  refine (HGa.out hza _ H3.out.1).mono ?_
  rintro e x4 ⟨he, hx⟩
  have H4 := Lib.hid (H3.out.on hx)
  clear hx H3 a0 a1 a2 a3 b0 b1 b2 b3
  cases hga : good a with
  | false =>
    rw [hga] at he
    subst he
    clear hza hzb
    go_wp2_with fail
    refine (HA.out _).mono ?_
    rintro e x5 ⟨rfl, hx⟩
    have H5 := Lib.hid (H4.out.on hx)
    clear hx
    go_wp2_with fail
    go_ret
    exact ⟨rfl, H5.out.1⟩
  | true =>
  rw [hga] at he
  subst he
  obtain ⟨⟨a0, a1, a2, a3⟩, b0, b1, b2, b3⟩ := H4.out.cells
  go_wp2_with fail
  refine (HGb.out hzb _ H4.out.1).mono ?_
  rintro e x5 ⟨he, hx⟩
  have H5 := Lib.hid (H4.out.on hx)
  clear hx H4 a0 a1 a2 a3 b0 b1 b2 b3
  cases hgb : good b with
  | false =>
    rw [hgb] at he
    subst he
    clear hza hzb
    go_wp2_with fail
    refine (HA.out _).mono ?_
    rintro e x6 ⟨rfl, hx⟩
    have H6 := Lib.hid (H5.out.on hx)
    clear hx
    go_wp2_with fail
    go_ret
    exact ⟨rfl, H6.out.1⟩
  | true =>
  rw [hgb] at he
  subst he
  obtain ⟨⟨a0, a1, a2, a3⟩, b0, b1, b2, b3⟩ := H5.out.cells
  clear HFa HFb HGa HGb HA
  go_wp2_with fail
  have h0 : x5.heap.size = (x5.alloc (.cells #[.int .i64 a.kind, .string a.ta, .string a.tb, .slice ao a.kids.length ac, .int .i64 b.kind, .string b.ta, .string b.tb, .slice bo b.kids.length bc] 24)).heap.size - 1 := by simp
  obtain ⟨y, hy⟩ : ∃ y, y = (x5.alloc (.cells #[.int .i64 a.kind, .string a.ta, .string a.tb, .slice ao a.kids.length ac, .int .i64 b.kind, .string b.ta, .string b.tb, .slice bo b.kids.length bc] 24)).alloc (.cells #[.int .i64 5, .string ⟨#[]⟩, .string ⟨#[]⟩, .slice (some ⟨x5.heap.size, 0, none⟩) 2 2] 24) := ⟨_, rfl⟩
  rw [← hy]
  have hT : Two w a.kind a.ta a.tb (.slice ao a.kids.length ac) b.kind b.ta b.tb (.slice bo b.kids.length bc) y := by
    rw [hy]
    exact H5.out.on ((fresh_one x5 _).alloc (by simp) _)
  have hB7 : Box4 (x5.heap.size + 1) 5 ⟨#[]⟩ ⟨#[]⟩ (.slice (some ⟨x5.heap.size, 0, none⟩) 2 2) y := by
    have := Box4.new (x5.alloc (.cells #[.int .i64 a.kind, .string a.ta, .string a.tb, .slice ao a.kids.length ac, .int .i64 b.kind, .string b.ta, .string b.tb, .slice bo b.kids.length bc] 24)) 5 ⟨#[]⟩ ⟨#[]⟩ (.slice (some ⟨x5.heap.size, 0, none⟩) 2 2)
    rw [World.size_alloc] at this
    rw [hy]
    exact this
  have hrow : y.heap[x5.heap.size]? = some (.cells #[.int .i64 a.kind, .string a.ta, .string a.tb, .slice ao a.kids.length ac, .int .i64 b.kind, .string b.ta, .string b.tb, .slice bo b.kids.length bc] 24 (0, 0)) := by
    rw [hy]
    exact ((fresh_one _ _).block x5.heap.size (by simp)).trans (heap_alloc_new x5 _)
  have s0 : (⟨#[]⟩ : ByteArray).size ≤ maxLen := short (by decide)
  have hNN : IsNode y (.mk 5 none0 none0 [a, b]) (node4 5 ⟨#[]⟩ ⟨#[]⟩ (.slice (some ⟨x5.heap.size, 0, none⟩) 2 2)) := node_two s0 s0 hrow (HN.out.1 _ hT.1) (HN.out.2 _ hT.1)
  have HY := Lib.hid (show ∀ x, Below y.heap.size y x → Two w a.kind a.ta a.tb (.slice ao a.kids.length ac) b.kind b.ta b.tb (.slice bo b.kids.length bc) x ∧ Box4 (x5.heap.size + 1) 5 ⟨#[]⟩ ⟨#[]⟩ (.slice (some ⟨x5.heap.size, 0, none⟩) 2 2) x ∧ IsNode x (.mk 5 none0 none0 [a, b]) (node4 5 ⟨#[]⟩ ⟨#[]⟩ (.slice (some ⟨x5.heap.size, 0, none⟩) 2 2)) from
    fun x hx => ⟨hT.on hx, hB7.on hx, hNN.below hx⟩)
  clear h0 hy hT hB7 hrow hNN s0 H5 a0 a1 a2 a3 b0 b1 b2 b3
  generalize x5.heap.size = G at *
  have hda : depth a ≤ 300 := Nat.le_trans (depth_le a) hza
  have hdb : depth b ≤ 300 := Nat.le_trans (depth_le b) hzb
  have hzn : size (.mk 5 none0 none0 [a, b]) ≤ 900 := by rw [pair_size]; omega
  have hgn : good (.mk 5 none0 none0 [a, b]) = true := pair_good (by omega) hga hgb
  have HG := Lib.hid (show ∀ x, Below y.heap.size y x → Calls Try.prog 19 #[node4 5 ⟨#[]⟩ ⟨#[]⟩ (.slice (some ⟨G, 0, none⟩) 2 2)] x fun e z => e = .returned (.bool true) ∧ Below x.heap.size x z from fun x hx => by
    have := good_any _ _ x hzn (HY.out x hx).2.2
    rwa [hgn] at this)
  have HSn := Lib.hid (show ∀ x, Below y.heap.size y x → Calls Try.prog 20 #[node4 5 ⟨#[]⟩ ⟨#[]⟩ (.slice (some ⟨G, 0, none⟩) 2 2)] x fun e z => e = .returned (.int .i64 (1 + (size a : Int) + (size b : Int))) ∧ Below x.heap.size x z from fun x hx => by
    have := size_any _ _ x hzn (HY.out x hx).2.2
    rw [pair_size] at this
    simpa using this)
  have HDn := Lib.hid (show ∀ x, Below y.heap.size y x → Calls Try.prog 21 #[node4 5 ⟨#[]⟩ ⟨#[]⟩ (.slice (some ⟨G, 0, none⟩) 2 2)] x fun e z => e = .returned (.int .i64 (1 + max (depth a : Int) (depth b : Int))) ∧ Below x.heap.size x z from fun x hx => by
    have := depth_any _ _ x hzn (HY.out x hx).2.2
    rw [pair_depth] at this
    have e : (((1 + max (depth a) (depth b) : Nat)) : Int) = 1 + max (depth a : Int) (depth b : Int) := by omega
    rwa [e] at this)
  have HSa := Lib.hid (fun x (hx : Below y.heap.size y x) => size_any a _ x (by omega) (HN.out.1 x (HY.out x hx).1.1))
  have HSb := Lib.hid (fun x (hx : Below y.heap.size y x) => size_any b _ x (by omega) (HN.out.2 x (HY.out x hx).1.1))
  have HDa := Lib.hid (fun x (hx : Below y.heap.size y x) => depth_any a _ x (by omega) (HN.out.1 x (HY.out x hx).1.1))
  have HDb := Lib.hid (fun x (hx : Below y.heap.size y x) => depth_any b _ x (by omega) (HN.out.2 x (HY.out x hx).1.1))
  have w1 : IntKind.i64.wrap (1 + (size a : Int)) = 1 + (size a : Int) := by rw [IntKind.wrap_i64]; omega
  have w2 : IntKind.i64.wrap (1 + (size a : Int) + (size b : Int)) = 1 + (size a : Int) + (size b : Int) := by rw [IntKind.wrap_i64]; omega
  have w3 : IntKind.i64.wrap (1 + max (depth a : Int) (depth b : Int)) = 1 + max (depth a : Int) (depth b : Int) := by rw [IntKind.wrap_i64]; omega
  refine wp_region_class (C := fun x => Below y.heap.size y x) (by kernel_rfl) (by kernel_rfl) (Below.refl _ _).drew ?_
  repeat (first
    | go_big_quiet_skip
    | (go_big_quiet_want
       apply quiet_of
       · intro x hx
         obtain ⟨⟨a0, a1, a2, a3⟩, b0, b1, b2, b3⟩ := (HY.out x hx).1.cells
         obtain ⟨n0, n1, n2, n3⟩ := (HY.out x hx).2.1.cells
         first
           | (go_simp; rfl)
           | (clear a0 a1 a2 a3 b0 b1 b2 b3 n0 n1 n2 n3; go_simp; go_at_call 19; with_reducible refine (HG.out x hx).mono ?_; rintro e z ⟨rfl, hz⟩; exact ⟨rfl, hx.trans (hz.mono hx.size)⟩)
           | (clear a0 a1 a2 a3 b0 b1 b2 b3 n0 n1 n2 n3; go_simp; go_at_call 20; with_reducible refine (HSn.out x hx).mono ?_; rintro e z ⟨rfl, hz⟩; exact ⟨rfl, hx.trans (hz.mono hx.size)⟩)
           | (clear a0 a1 a2 a3 b0 b1 b2 b3 n0 n1 n2 n3; go_simp; go_at_call 20; with_reducible refine (HSa.out x hx).mono ?_; rintro e z ⟨rfl, hz⟩; exact ⟨rfl, hx.trans (hz.mono hx.size)⟩)
           | (clear a0 a1 a2 a3 b0 b1 b2 b3 n0 n1 n2 n3; go_simp; go_at_call 20; with_reducible refine (HSb.out x hx).mono ?_; rintro e z ⟨rfl, hz⟩; exact ⟨rfl, hx.trans (hz.mono hx.size)⟩)
           | (clear a0 a1 a2 a3 b0 b1 b2 b3 n0 n1 n2 n3; go_simp; go_at_call 21; with_reducible refine (HDn.out x hx).mono ?_; rintro e z ⟨rfl, hz⟩; exact ⟨rfl, hx.trans (hz.mono hx.size)⟩)
           | (clear a0 a1 a2 a3 b0 b1 b2 b3 n0 n1 n2 n3; go_simp; go_at_call 21; with_reducible refine (HDa.out x hx).mono ?_; rintro e z ⟨rfl, hz⟩; exact ⟨rfl, hx.trans (hz.mono hx.size)⟩)
           | (clear a0 a1 a2 a3 b0 b1 b2 b3 n0 n1 n2 n3; go_simp; go_at_call 21; with_reducible refine (HDb.out x hx).mono ?_; rintro e z ⟨rfl, hz⟩; exact ⟨rfl, hx.trans (hz.mono hx.size)⟩)
       simp only [Act.put, List.setIfInBounds_toArray, List.set_cons_zero, List.set_cons_succ]
       go_big_quiet_on))
  refine wpQuiet_nil ?_
  intro x6 hx
  have H6 := Lib.hid (And.intro hx (HY.out x6 hx))
  have HBn := Lib.hid (fun x (hx : Below y.heap.size y x) => Build_any _ _ x hzn (HY.out x hx).2.2)
  clear hx HG HSn HDn HSa HSb HDa HDb w1 w2 w3
  obtain ⟨n0, n1, n2, n3⟩ := H6.out.2.2.1.cells
  go_wp2_with fail
  refine (HBn.out x6 H6.out.1).mono ?_
  rintro e x7 ⟨hb7, ⟨hne, rfl⟩ | ⟨he0, u, rfl, hu⟩⟩
  · have hE : errOf (.mk 5 none0 none0 [a, b]) = 3 ∨ errOf (.mk 5 none0 none0 [a, b]) = 12 := by
      rcases err_cases (.mk 5 none0 none0 [a, b]) with ⟨-, h⟩ | ⟨h, -⟩ | ⟨h, -⟩ | ⟨h, -⟩
      · rw [hgn] at h; cases h
      · exact .inl h
      · exact .inr h
      · exact absurd h hne
    have H7 := Lib.hid (H6.out.2.1.on hb7)
    clear hb7 hne HBn HY HN H6 n0 n1 n2 n3 hzn hgn hza hzb hda hdb
    generalize errOf (.mk 5 none0 none0 [a, b]) = E at *
    rcases hE with rfl | rfl
    · go_wp2_with fail
      go_ret
      exact ⟨rfl, H7.out.1⟩
    · go_wp2_with fail
      go_ret
      exact ⟨rfl, H7.out.1⟩
  obtain ⟨ut, uv, rfl⟩ := hu.iface
  have hs24 : size (.mk 5 none0 none0 [a, b]) ≤ 24 ∧ depth (.mk 5 none0 none0 [a, b]) ≤ 8 := by
    rcases err_cases (.mk 5 none0 none0 [a, b]) with ⟨h, -⟩ | ⟨h, -⟩ | ⟨h, -⟩ | ⟨-, -, h⟩
    · omega
    · omega
    · omega
    · exact h
  have hsd := hs24
  rw [pair_size, pair_depth] at hsd
  have ea : errOf a = 0 := err_zero hga (by omega) (by omega)
  have eb : errOf b = 0 := err_zero hgb (by omega) (by omega)
  have HBa := Lib.hid (fun x (hx : Below w.heap.size w x) => Build_any a _ x (by omega) (HN.out.1 x hx))
  have HBb := Lib.hid (fun x (hx : Below w.heap.size w x) => Build_any b _ x (by omega) (HN.out.2 x hx))
  rw [ea] at HBa
  rw [eb] at HBb
  have H7 := Lib.hid (And.intro (H6.out.2.1.on hb7) (hu.mono (Nat.zero_le _)))
  have HP := Lib.hid (And.intro hga (And.intro hgb (And.intro hgn (And.intro hza (And.intro hzb (Nat.le_trans hs24.1 (by omega : 24 ≤ 300)))))))
  clear hb7 hu he0 hs24 hsd ea eb HBn HY HN H6 n0 n1 n2 n3 hzn hgn hza hzb hda hdb hga hgb as1 as2 bs1 bs2
  obtain ⟨⟨a0, a1, a2, a3⟩, b0, b1, b2, b3⟩ := H7.out.1.cells
  go_wp2_with fail
  refine (HBa.out _ H7.out.1.1).mono ?_
  rintro e x8 ⟨hb, ⟨hne, -⟩ | ⟨-, ua, rfl, hua⟩⟩
  · exact absurd rfl hne
  obtain ⟨uat, uav, rfl⟩ := hua.iface
  have H8 := Lib.hid (And.intro (H7.out.1.on hb) (And.intro (H7.out.2.below hb) (hua.mono (Nat.zero_le _))))
  clear hb hua HBa H7 a0 a1 a2 a3 b0 b1 b2 b3
  obtain ⟨⟨a0, a1, a2, a3⟩, b0, b1, b2, b3⟩ := H8.out.1.cells
  go_wp2_with fail
  refine (HBb.out _ H8.out.1.1).mono ?_
  rintro e x9 ⟨hb, ⟨hne, -⟩ | ⟨-, ub, rfl, hub⟩⟩
  · exact absurd rfl hne
  obtain ⟨ubt, ubv, rfl⟩ := hub.iface
  have H9 := Lib.hid (And.intro (H8.out.1.on hb).1 (And.intro (H8.out.2.1.below hb) (And.intro (H8.out.2.2.below hb) (hub.mono (Nat.zero_le _)))))
  clear hb hub HBb H8 a0 a1 a2 a3 b0 b1 b2 b3
  go_wp2_with fail
  refine (refs_any a _ x9 HP.out.2.2.2.1 HP.out.1 H9.out.2.2.1).mono ?_
  rintro e x10 ⟨v10, rfl, hr10, hb10⟩
  obtain ⟨ro, rc, rfl⟩ := own_slice hr10
  have H10 := Lib.hid (And.intro hr10 hb10)
  clear hr10 hb10
  go_wp2_with fail
  refine (refs_any b _ x10 HP.out.2.2.2.2.1 HP.out.2.1 (H9.out.2.2.2.below H10.out.2)).mono ?_
  rintro e x11 ⟨v11, rfl, hr11, hb11⟩
  obtain ⟨so, sc, rfl⟩ := own_slice hr11
  have H11 := Lib.hid (show RefsAt x9.heap.size x11 (.slice ro (refs a false).length rc) (refs a false) ∧ RefsAt x10.heap.size x11 (.slice so (refs b false).length sc) (refs b false) ∧ Below x9.heap.size x9 x11 from
    ⟨own_below H10.out.1 hb11, hr11, H10.out.2.trans (hb11.mono H10.out.2.size)⟩)
  have hla : (refs a false).length ≤ 300 := Nat.le_trans (refs_len a false) HP.out.2.2.2.1
  have hlb : (refs b false).length ≤ 300 := Nat.le_trans (refs_len b false) HP.out.2.2.2.2.1
  clear hr11 hb11 H10
  go_wp2_with (at_builtin; refine walk_join rfl _ _ rfl rfl rfl H11.out.1 H11.out.2.1 H11.out.2.2.size (by omega) ?_)
  intro v12 x12 hr12 hb12
  obtain ⟨l, hl⟩ : ∃ l, l = refs a false ++ refs b false := ⟨_, rfl⟩
  rw [← hl] at hr12
  obtain ⟨po, pc, rfl⟩ := own_slice hr12
  have h12 : Below x9.heap.size x9 x12 := H11.out.2.2.trans hb12
  have hll : l.length ≤ 600 := by rw [hl, List.length_append]; omega
  have H12 := Lib.hid (And.intro hr12 (And.intro (H9.out.1.trans (h12.mono H9.out.1.size)) (And.intro (H9.out.2.1.below h12) (And.intro (H9.out.2.2.1.below h12) (H9.out.2.2.2.below h12)))))
  have HR := Lib.hid (refs_any _ _ x12 HP.out.2.2.2.2.2 HP.out.2.2.1 H12.out.2.2.1)
  rw [pair_refs a b (by omega), ← hl] at HR
  clear hl hr12 hb12 h12 H11 hla hlb H9
  go_wp2_with fail
  refine HR.out.mono ?_
  rintro e x13 ⟨v13, rfl, hr13, hb13⟩
  obtain ⟨qo, qc, rfl⟩ := own_slice hr13
  have H13 := Lib.hid (show RefsAt x12.heap.size x13 (.slice qo l.length qc) l ∧ RefsAt x9.heap.size x13 (.slice po l.length pc) l ∧ Below w.heap.size w x13 ∧ IsExpr 0 x13 (.mk 5 none0 none0 [a, b]) (.iface ut uv) ∧ IsExpr 0 x13 a (.iface uat uav) ∧ IsExpr 0 x13 b (.iface ubt ubv) from
    ⟨hr13, own_below H12.out.1 hb13, H12.out.2.1.trans (hb13.mono H12.out.2.1.size), H12.out.2.2.1.below hb13, H12.out.2.2.2.1.below hb13, H12.out.2.2.2.2.below hb13⟩)
  clear hr13 hb13 H12 HR
  go_wp2_with fail
  go_loopw [114] (fun i wr => ∃ j : Nat, j ≤ l.length ∧ i = .int .i64 j ∧ Hid (Below x13.heap.size x13 wr)) (fun i _ => l.length - (intOf i).toNat)
  case atStart => exact ⟨0, by omega, rfl, Below.refl _ _⟩
  case round =>
    obtain ⟨j, hj, rfl, HJ⟩ := hrel
    by_cases hlt : j < l.length
    · obtain ⟨g, q, hix, hgb, hc⟩ := ref_at H13.out.1 hlt
      obtain ⟨g', q', hix', hgb', hc'⟩ := ref_at H13.out.2.1 hlt
      have HC := Lib.hid (show ∀ x, Below x13.heap.size x13 x → RefCells x g q l[j] ∧ RefCells x g' q' l[j] from fun x hx => ⟨hc.on hgb hx, hc'.on hgb' hx⟩)
      have hj3 : j ≤ 600 := by omega
      clear hc hc' hgb hgb'
      generalize l[j] = r at *
      go_wp2_with fail
      refine wp_region_class (C := fun x => Below x13.heap.size x13 x) (by kernel_rfl) (by kernel_rfl) HJ.out.drew ?_
      repeat (first
        | go_big_quiet_skip
        | (go_big_quiet_want
           apply quiet_of
           · intro x hx
             obtain ⟨⟨c0, c1, c2⟩, d0, d1, d2⟩ := HC.out x hx
             go_simp
             rfl
           simp only [Act.put, List.setIfInBounds_toArray, List.set_cons_zero, List.set_cons_succ]
           go_big_quiet_on))
      refine wpQuiet_nil ?_
      intro x hx
      have HX := Lib.hid hx
      clear hx HC
      go_wp2_with fail
      go_roundw
      case rel => exact ⟨j + 1, by omega, by go_num, HX⟩
      case measure => simp [intOf]; omega
    · have hj' : j = l.length := by omega
      have hb13 := HJ.out
      have H14 := Lib.hid (And.intro (H13.out.2.2.1.trans (hb13.mono H13.out.2.2.1.size)) (And.intro (H13.out.2.2.2.1.below hb13) (And.intro (H13.out.2.2.2.2.1.below hb13) (H13.out.2.2.2.2.2.below hb13))))
      have HDn := Lib.hid (fun x (hx : Below wr.heap.size wr x) => direct_any _ _ true x HP.out.2.2.2.2.2 HP.out.2.2.1 (H14.out.2.1.below hx))
      have HDa := Lib.hid (fun x (hx : Below wr.heap.size wr x) => direct_any _ _ true x HP.out.2.2.2.1 HP.out.1 (H14.out.2.2.1.below hx))
      have HDb := Lib.hid (fun x (hx : Below wr.heap.size wr x) => direct_any _ _ true x HP.out.2.2.2.2.1 HP.out.2.1 (H14.out.2.2.2.below hx))
      rw [pair_direct a b (by omega)] at HDn
      subst hj'
      clear hb13 H13 HJ
      generalize direct a true false = da at *
      generalize direct b true false = db at *
      cases da with
      | true =>
        simp only [Bool.true_or] at HDn
        go_wp2_with fail
        refine (HDn.out _ (Below.refl _ _)).mono ?_
        rintro e y1 ⟨rfl, h1⟩
        go_wp2_with fail
        refine (HDa.out _ h1).mono ?_
        rintro e y2 ⟨rfl, h2⟩
        have HX := Lib.hid (H14.out.1.trans ((h1.trans (h2.mono h1.size)).mono H14.out.1.size))
        clear h1 h2 HDn HDa HDb
        go_wp2_with fail
        go_ret
        exact ⟨rfl, HX.out⟩
      | false =>
        simp only [Bool.false_or] at HDn
        go_wp2_with fail
        refine (HDn.out _ (Below.refl _ _)).mono ?_
        rintro e y1 ⟨rfl, h1⟩
        go_wp2_with fail
        refine (HDa.out _ h1).mono ?_
        rintro e y2 ⟨rfl, h2⟩
        have h12 := h1.trans (h2.mono h1.size)
        go_wp2_with fail
        refine (HDb.out _ h12).mono ?_
        rintro e y3 ⟨rfl, h3⟩
        have HX := Lib.hid (H14.out.1.trans ((h12.trans (h3.mono h12.size)).mono H14.out.1.size))
        clear h1 h2 h3 h12 HDn HDa HDb
        go_wp2_with fail
        go_ret
        exact ⟨by simp, HX.out⟩
end Tr
namespace LawB5Parts
open Tr
theorem walk (a : Nd) (va : Value) (b : Nd) (vb : Value) (m : Bool) (w : World) (hna : IsNode w a va) (hnb : IsNode w b vb) :
    Calls Try.prog 6 #[va, vb, .bool m] w fun e x => e = .returned (.bool true) ∧ Below w.heap.size w x := by
  cases m with
  | false => exact parts_union a b va vb w hna hnb
  | true => exact parts_meet a b va vb w hna hnb
end LawB5Parts
end Go.Proofs.Ytleoknhnglbgoaa
