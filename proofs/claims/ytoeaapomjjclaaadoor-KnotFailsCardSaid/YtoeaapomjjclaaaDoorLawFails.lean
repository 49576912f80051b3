/-
  The statement KnotFails at every list of bytes. What is asked: the library's table of powers of ten.
-/
import Derived.Test.YtoeaapomjjclaaaDoorKnAwake
import Derived.Test.YtoeaapomjjclaaaDoorInE
import Derived.Test.YtoeaapomjjclaaaDoorArgs
import Derived.Laws.StructEq
namespace Go.Proofs.YtoeaapomjjclaaaDoor
open Go.RowKit Go.Sort
namespace Knot
open Who (bs bs_list bs_size bs_self eq_of_list)

section
variable {P : Program} {w : World} {t e : TypeId} {i : TypeInfo}
theorem append_marked (T : IsBytes P t e i) (ty : TypeId) {g : Nat} {c0 : UInt8} {v : Value} {l : List UInt8} (hg : ∀ j u, (Lib.byteCells [c0])[j]? = some u → w.cell? ((⟨g, 0, none⟩ : Addr).add j) = some u) (h : IsArg w v l) (hl : l.length ≤ 3000) :
    ∃ b cap x, (Builtin.append_ #[t, t] ty #[.slice (some ⟨g, 0, none⟩) 1 1, v]).run P w = .ok (.slice (some ⟨b, 0, none⟩) (c0 :: l).length cap) x ∧ Below w.heap.size w x ∧
      ∀ j u, (Lib.byteCells (c0 :: l))[j]? = some u → x.cell? ((⟨b, 0, none⟩ : Addr).add j) = some u := by
  rcases h with ⟨rfl, rfl⟩ | ⟨a, cap, rfl, hc⟩
  · refine ⟨g, 1, w, ?_, Below.refl _ _, hg⟩
    simp [Builtin.append_, run_underlying T.under, sizeOf, typeInfo, T.info, Builtin.lenOf, Builtin.firstCells, storeCells]
  · by_cases h0 : l = []
    · subst h0
      refine ⟨g, 1, w, ?_, Below.refl _ _, hg⟩
      have hf := run_firstCells_some (P := P) w i.size 0 a 0 cap [] (by simp) (by simp)
      simp [Builtin.append_, run_underlying T.under, sizeOf, typeInfo, T.info, Builtin.lenOf, hf, storeCells]
    · have hpos : 0 < l.length := List.length_pos_iff.2 h0
      have hr := run_append_grow (P := P) w t ty e i (.int .u8 0) T.under T.info T.zero ⟨g, 0, none⟩ 1 1 (Lib.byteCells [c0]) (by rw [T.size]; rfl) hg a l.length cap (Lib.byteCells l) (by rw [T.size, Lib.byteCells_length, Nat.mul_one]) hc (by omega) (by omega) (growslice_fits (by omega) (by rw [T.bytes]; omega))
      rw [Nat.add_comm 1 l.length] at hr
      refine ⟨_, _, _, hr, ((Below.refl _ _).drew).alloc (Nat.le_refl _) _, fun j u hj => ?_⟩
      have hlt : j < (Lib.byteCells (c0 :: l)).length := (List.getElem?_eq_some_iff.1 hj).1
      have hcell := World.cell?_alloc_mark w.drew ((Lib.byteCells [c0]).toArray ++ (Lib.byteCells l).toArray ++ Builtin.zeroCells (Value.int .u8 0).cells (grownCap w (l.length + 1) 1 e - (l.length + 1))) e (0, 0) j
      rw [Lib.add_plain, Nat.zero_add]
      refine hcell.trans ?_
      rw [show (Lib.byteCells [c0]).toArray ++ (Lib.byteCells l).toArray = (Lib.byteCells (c0 :: l)).toArray by simp [Lib.byteCells]]
      rw [Array.getElem?_append_left (by simpa using hlt)]
      simpa using hj
theorem walk_marked {ops : Array Oper} {rest : List Oper} {o : Oper} {a : Act} {Q : Exit → Act → World → Prop} (T : IsBytes P t e i) (hgd : o.guard = none) (s x : Operand) (ho : o.op = .call { callee := .builtin .append, args := #[s, x], argTypes := #[t, t] })
    {g : Nat} {c0 : UInt8} {v : Value} {l : List UInt8} (hs : a.eval s = .slice (some ⟨g, 0, none⟩) 1 1) (hx : a.eval x = v) (hg : ∀ j u, (Lib.byteCells [c0])[j]? = some u → w.cell? ((⟨g, 0, none⟩ : Addr).add j) = some u) (h : IsArg w v l) (hl : l.length ≤ 3000)
    (k : ∀ b cap y, Below w.heap.size w y → (∀ j u, (Lib.byteCells (c0 :: l))[j]? = some u → y.cell? ((⟨b, 0, none⟩ : Addr).add j) = some u) → wpList P ops Q rest (a.put o.dst (.slice (some ⟨b, 0, none⟩) (c0 :: l).length cap)) y) : wpList P ops Q (o :: rest) a w := by
  refine wpList_plain hgd fun K hK => ?_
  obtain ⟨b, cap, y, hr, h2, h3⟩ := append_marked T o.type hg h hl
  unfold Oper.wp execOp
  simp only [ho, resolve, invoke, builtin, Sem.run_bind, Sem.run_pure, Result.andThen_ok, List.map_toArray, List.map_cons, List.map_nil, hs, hx, hr]
  exact hK _ _ (k b cap y h2 h3)
end

theorem conv_cells {x : World} {b cap : Nat} {l : List UInt8} (h : ∀ j u, (Lib.byteCells l)[j]? = some u → x.cell? ⟨b, j, none⟩ = some u) :
    (Go.convert 43 9 (.slice (some ⟨b, 0, none⟩) l.length cap)).run Tryd.prog x = .ok (.string (bs l)) x :=
  run_convert_bytes_back (P := Tryd.prog) x 43 9 5 ⟨b, 0, none⟩ cap l Tryd.underlying43 Tryd.underlying5 Tryd.underlying9 (fun j hj => by rw [Lib.add_plain, Nat.zero_add]; exact h j _ (by simp [Lib.byteCells, hj]))

/-- A list of none is taken where it failed. -/
theorem tuples_none (I : Nat) (f : Bool) (most : Int) (w : World) (h : Inn w I ⟨#[]⟩ f) :
    Calls Tryd.prog 29 #[iptr I, .int .i64 most] w fun e x => e = .returned (.slice none 0 0) ∧ Inn x I ⟨#[]⟩ true ∧ Turns (At I) w x := by
  have HN := Lib.hid (number_none I f most w h)
  clear h
  go_enter Tryd.func29, Tryd.ntmps29
  go_wp2_with fail
  refine HN.out.mono ?_
  rintro e w1 ⟨rfl, h1, t1⟩
  have H1 := Lib.hid (And.intro h1 t1)
  clear h1 t1 HN
  go_wp2
  go_loopw [6, 12] (fun a c wr => a = .slice none 0 0 ∧ c = .int .i64 0 ∧ wr = w1) (fun _ _ _ => 0)
  case atStart => exact ⟨rfl, rfl, rfl⟩
  case round =>
    obtain ⟨rfl, rfl, rfl⟩ := hrel
    go_wp2
    go_ret
    exact ⟨rfl, H1.out.1, H1.out.2⟩

set_option maxHeartbeats 4000000 in
set_option maxRecDepth 100000 in
theorem fails_walk (v : Value) (l : List UInt8) (w : World) (h : IsArg w v l) (htab : Tab w.heap.size w) :
    Calls Tryd.prog 4 #[v] w fun e x => e = .returned (.bool true) ∧ Below w.heap.size w x := by
  have HA := Lib.hid (awake_any w htab)
  have HT := Lib.hid htab
  have H := Lib.hid h
  obtain ⟨ao, cc, rfl⟩ := h.len
  clear h htab
  by_cases hl : l.length ≤ 3000
  · go_enter Tryd.func4, Tryd.ntmps4
    go_wp2_with fail
    refine HA.out.mono ?_
    rintro e w1 ⟨rfl, b1⟩
    have kc := Go.Joins.run_convert_bytes_const_at (P := Tryd.prog) w1 43 5 #[.int .u8 120] 1 1 w1.heap.size rfl Tryd.underlying43 Tryd.underlying5
    obtain ⟨w2, hw2⟩ : ∃ w2, w2 = w1.alloc (.cells #[.int .u8 120] 5 (1, 2)) := ⟨_, rfl⟩
    have b2 : Below w1.heap.size w1 w2 := by rw [hw2]; exact (Below.refl _ _).alloc (Nat.le_refl _) _
    have hg : ∀ j u, (Lib.byteCells [120])[j]? = some u → w2.cell? ((⟨w1.heap.size, 0, none⟩ : Addr).add j) = some u := by
      intro j u hj
      rw [hw2, Lib.add_plain, Nat.zero_add, World.cell?_alloc_mark]
      simpa [Lib.byteCells] using hj
    have hsz : (#[Value.int .u8 120] : Array Value).size = 1 := rfl
    rw [hsz] at kc
    rw [← hw2] at kc
    obtain ⟨i0, T⟩ := isBytes
    have HG := Lib.hid (And.intro hg (And.intro (H.out.below (b1.trans (b2.mono b1.size))) (b1.trans (b2.mono b1.size))))
    clear hw2 b1 b2 hg HA hsz
    go_wp2_with (at_builtin; refine walk_marked T rfl _ _ rfl rfl rfl HG.out.1 HG.out.2.1 hl ?_)
    intro b cap w3 b3 hc3
    have hcv := conv_cells (cap := cap) hc3
    have HO := Lib.hid (open_any (.slice (some ⟨b, 0, none⟩) (120 :: l).length cap) (bs (120 :: l)) w3 (fun W hW => by rw [hW]; exact hcv))
    have B3 := Lib.hid (HG.out.2.2.trans (b3.mono HG.out.2.2.size))
    clear hcv hc3 b3 HG kc H
    go_wp2_with fail
    refine HO.out.mono ?_
    rintro e w4 ⟨rfl, i4, b4⟩
    obtain ⟨I, hI⟩ : ∃ I, I = w3.heap.size := ⟨_, rfl⟩
    rw [← hI] at i4 ⊢
    have hIB : ∀ k, At I k → w.heap.size ≤ k := fun k hk => by rw [hk, hI]; exact B3.out.size
    have HIB := Lib.hid hIB
    have B4 := Lib.hid (B3.out.trans (b4.mono B3.out.size))
    have H5 := Lib.hid (number_fail I _ false 9007199254740992 w4 i4 (fun W => number_bad_f _ l W (bs_list _)))
    clear hI hIB i4 b4 HO B3
    go_wp2_with fail
    refine H5.out.mono ?_
    rintro e w5 ⟨rfl, i5, t5⟩
    have B5 := Lib.hid (B4.out.trans (t5.below B4.out.size HIB.out))
    have H6 := Lib.hid (number_none I true 9007199254740992 w5 i5)
    clear i5 t5 H5 B4
    go_wp2_with fail
    refine H6.out.mono ?_
    rintro e w6 ⟨rfl, i6, t6⟩
    have B6 := Lib.hid (B5.out.trans (t6.below B5.out.size HIB.out))
    have H7 := Lib.hid (text_none I true 100 w6 i6)
    clear i6 t6 H6 B5
    go_wp2_with fail
    refine H7.out.mono ?_
    rintro e w7 ⟨rfl, i7, t7⟩
    have B7 := Lib.hid (B6.out.trans (t7.below B6.out.size HIB.out))
    have H8 := Lib.hid (mark_none I true w7 i7)
    clear i7 t7 H7 B6
    go_wp2_with fail
    refine H8.out.mono ?_
    rintro e w8 ⟨rfl, i8, t8⟩
    have B8 := Lib.hid (B7.out.trans (t8.below B7.out.size HIB.out))
    have H9 := Lib.hid (subject_none I true w8 i8)
    clear i8 t8 H8 B7
    go_wp2_with fail
    refine H9.out.mono ?_
    rintro e w9 ⟨rfl, i9, t9⟩
    have B9 := Lib.hid (B8.out.trans (t9.below B8.out.size HIB.out))
    have H10 := Lib.hid (tuple_none I true w9 i9)
    clear i9 t9 H9 B8
    go_wp2_with fail
    refine H10.out.mono ?_
    rintro e w10 ⟨rfl, i10, t10⟩
    have B10 := Lib.hid (B9.out.trans (t10.below B9.out.size HIB.out))
    have H11 := Lib.hid (tuples_none I true 9 w10 i10)
    clear i10 t10 H10 B9
    go_wp2_with fail
    refine H11.out.mono ?_
    rintro e w11 ⟨rfl, i11, t11⟩
    have B11 := Lib.hid (B10.out.trans (t11.below B10.out.size HIB.out))
    have H12 := Lib.hid (left_any I _ true w11 i11)
    have H13 := Lib.hid (end_any I true w11 i11)
    clear i11 t11 H11 B10
    go_wp2_with fail
    refine H12.out.mono ?_
    rintro e w12 ⟨rfl, rfl⟩
    go_wp2_with fail
    refine H13.out.mono ?_
    rintro e w13 ⟨rfl, rfl⟩
    go_wp2
    go_ret
    exact ⟨rfl, B11.out⟩
  · have hl' : 3000 < l.length := by omega
    go_enter Tryd.func4, Tryd.ntmps4
    go_wp2_with fail
    refine HA.out.mono ?_
    rintro e w1 ⟨rfl, b1⟩
    have HA2 := Lib.hid (awake_any w1 (fun x hx => HT.out x (b1.trans (hx.mono b1.size))))
    have B1 := Lib.hid b1
    clear b1 HA
    go_wp2_with fail
    refine HA2.out.mono ?_
    rintro e w2 ⟨rfl, b2⟩
    go_wp2
    go_ret
    exact ⟨rfl, B1.out.trans (b2.mono B1.out.size)⟩
end Knot
end Go.Proofs.YtoeaapomjjclaaaDoor
