/-
  Layer 10: the statement CaskUnpacks, walked.
-/
import Derived.Test.YtopncohhagebbaaDoorCgD
import Derived.Test.YtopncohhagebbaaDoorCkDu
import Derived.Test.YtopncohhagebbaaDoorCkUnpack
import Derived.Test.YtopncohhagebbaaDoorCkTie
import Derived.Test.YtopncohhagebbaaDoorCkArg
import Derived.Test.YtopncohhagebbaaDoorGrSameB
import Derived.Laws.BytesArg
namespace Go.Proofs.YtopncohhagebbaaDoor
open Go.RowKit Go.Sort
namespace LawK10Unpacks
open Knot (Tab tab_on tab_up conv_bytes IsArg)
open Tr (Nd size)
open Who (bs bs_list bs_size)
open Gr (Al Rl Ty IsCf tCf samecfg_any)
open Cn (gC)
open Ck

theorem conv_arg {w : World} {v : Value} {l : List UInt8} (h : IsArg w v l) : (Go.convert 22 9 v).run Tryd.prog w = .ok (.string (bs l)) w := by
  rcases h with ⟨rfl, rfl⟩ | ⟨a, cap, rfl, hc⟩
  · exact run_convert_bytes_nil (P := Tryd.prog) (w := w) 22 5 Tryd.underlying22 Tryd.underlying5 0 0 9 Tryd.underlying9
  · exact run_convert_bytes_back (P := Tryd.prog) w 22 9 5 a cap l Tryd.underlying22 Tryd.underlying5 Tryd.underlying9 fun j hj => hc j _ (by simp [Lib.byteCells, hj])
theorem good_fit {l : List Ty} (h : gC l = true) : Gr.Fit l := fun t ht r hr => by
  have h1 := List.all_eq_true.1 h t ht
  rw [Cn.gT, Bool.and_eq_true] at h1
  have h2 := List.all_eq_true.1 h1.2 r hr
  rw [Cn.gR, Bool.and_eq_true, Bool.and_eq_true] at h2
  have := (err_parts (by simpa using h2.1.2)).2.1
  omega

set_option maxHeartbeats 16000000 in
set_option maxRecDepth 100000 in
theorem walk (mv : Value) (ml : List UInt8) (w : World) (hm : IsArg w mv ml) (ht : Tab w.heap.size w) :
    Calls Tryd.prog 3 #[mv] w fun e x => e = .returned (.bool true) ∧ Below w.heap.size w x := by
  have HA := Lib.hid (fun x (hb : Below w.heap.size w x) => Ck.awake_any x (tab_up ht hb))
  have HC := Lib.hid (fun W (hW : Below w.heap.size w W) => conv_arg (hm.below hW))
  have HT := Lib.hid ht
  obtain ⟨mo, mc, rfl⟩ := hm.len
  clear hm ht
  go_enter Tryd.func3, Tryd.ntmps3
  go_wp2_with fail
  refine (HA.out _ (Below.refl _ _)).mono ?_
  rintro e x1 ⟨rfl, hx⟩
  have H1 := Lib.hid hx
  clear hx
  by_cases h40 : 4000 < ml.length
  · have e40 : decide ((4000 : Int) < (ml.length : Int)) = true := by simp; omega
    clear h40
    go_wp2_with fail
    refine (HA.out _ H1.out).mono ?_
    rintro e x2 ⟨rfl, hx⟩
    have H2 := Lib.hid (H1.out.trans (hx.mono H1.out.size))
    clear hx
    go_wp2_with fail
    go_ret
    exact ⟨rfl, H2.out⟩
  · have e40 : decide ((4000 : Int) < (ml.length : Int)) = false := by simp; omega
    have h4 : ml.length ≤ 4000 := by omega
    have HU := Lib.hid (unpack_any (.slice mo ml.length mc) (bs ml) x1 (fun W hW => HC.out W (H1.out.trans (hW.mono H1.out.size))) (by rw [bs_size]; omega))
    unfold Unp at HU
    rw [bs_list] at HU
    have HN := Lib.hid h4
    clear h40 h4
    go_wp2_with fail
    clear e40
    refine HU.out.mono ?_
    rintro e x2 ⟨hb2, hcase⟩
    rcases hcase with ⟨hun, rfl⟩ | ⟨l, v, hun, rfl, hcf⟩
    · have hb3 := hb2.trans ((Tr.fresh_one x2 (.cells #[.slice none 0 0] tCf)).mono hb2.size)
      have H2 := Lib.hid (And.intro (H1.out.trans (hb3.mono H1.out.size)) (heap_alloc_new x2 (.cells #[.slice none 0 0] tCf)))
      clear hb2 hb3 HU
      go_upto_region 4 with fail
      generalize x2.alloc (.cells #[.slice none 0 0] tCf) = Y at *
      generalize x2.heap.size = R1 at *
      have HD := Lib.hid (dunpack_any (.slice mo ml.length mc) (bs ml) Y (fun W hW => HC.out W (H2.out.1.trans (hW.mono H2.out.1.size))) (by rw [bs_size]; exact HN.out))
      unfold DU at HD
      rw [bs_list, hun] at HD
      clear hun
      go_wp2_with fail
      refine HD.out.mono ?_
      rintro e x3 ⟨hb3, ⟨-, rfl⟩ | ⟨T, v, h, -⟩⟩
      case inr => cases h
      have hb4 := hb3.trans ((Tr.fresh_one x3 (.cells #[.slice none 0 0] tCf)).mono hb3.size)
      have H3 := Lib.hid (And.intro (H2.out.1.trans (hb4.mono H2.out.1.size)) (And.intro ((hb4.block _ (Array.getElem?_eq_some_iff.1 H2.out.2).1).trans H2.out.2) (heap_alloc_new x3 (.cells #[.slice none 0 0] tCf))))
      clear hb3 hb4 HD H2
      go_upto_region 5 with fail
      generalize x3.alloc (.cells #[.slice none 0 0] tCf) = Z at *
      generalize x3.heap.size = R2 at *
      have b1 := Gr.box1 H3.out.2.1
      have b2 := Gr.box1 H3.out.2.2
      have HS := Lib.hid (samecfg_any (l := []) (fun t h => by cases h) (Ck.is_none Z) (Ck.is_none Z))
      go_wp2_with fail
      refine HS.out.mono ?_
      rintro e x4 ⟨rfl, hx⟩
      have H4 := Lib.hid (H3.out.1.trans (hx.mono H3.out.1.size))
      clear hx
      go_wp2_with fail
      go_ret
      exact ⟨rfl, H4.out⟩
    · obtain ⟨hml, hg⟩ := unpack_of hun
      obtain ⟨ao, cap, us, rfl, hl⟩ := hcf.is
      have hi : IsCf x2 l (.agg #[.slice ao l.length cap]) := ⟨ao, cap, us, rfl, hl⟩
      have al := Tr.fresh_one x2 (.cells #[.slice ao l.length cap] tCf)
      have hb3 := hb2.trans (al.mono hb2.size)
      have H2 := Lib.hid (And.intro (H1.out.trans (hb3.mono H1.out.size)) (And.intro (heap_alloc_new x2 (.cells #[.slice ao l.length cap] tCf)) (hi.below al)))
      have HG := Lib.hid (And.intro hml hg)
      clear hb2 hb3 HU hcf hl hi al hml hg
      go_upto_region 4 with fail
      generalize x2.alloc (.cells #[.slice ao l.length cap] tCf) = Y at *
      generalize x2.heap.size = R1 at *
      have HD := Lib.hid (dunpack_any (.slice mo ml.length mc) (bs ml) Y (fun W hW => HC.out W (H2.out.1.trans (hW.mono H2.out.1.size))) (by rw [bs_size]; exact HN.out))
      unfold DU at HD
      rw [bs_list, hun] at HD
      clear hun
      go_wp2_with fail
      refine HD.out.mono ?_
      rintro e x3 ⟨hb3, ⟨h, -⟩ | ⟨T, v, h, rfl, hcf⟩⟩
      · cases h
      obtain rfl := Option.some.inj h
      obtain ⟨bo, bcap, us2, rfl, hl⟩ := Gr.CfS.is hcf
      have hi : IsCf x3 l (.agg #[.slice bo l.length bcap]) := ⟨bo, bcap, us2, rfl, hl⟩
      have al := Tr.fresh_one x3 (.cells #[.slice bo l.length bcap] tCf)
      have hb4 := hb3.trans (al.mono hb3.size)
      have H3 := Lib.hid (And.intro (H2.out.1.trans (hb4.mono H2.out.1.size)) (And.intro ((hb4.block _ (Array.getElem?_eq_some_iff.1 H2.out.2.1).1).trans H2.out.2.1) (And.intro (heap_alloc_new x3 (.cells #[.slice bo l.length bcap] tCf)) (And.intro (H2.out.2.2.below hb4) (hi.below al)))))
      clear hb3 hb4 HD H2 h hcf hl hi al
      go_upto_region 5 with fail
      generalize x3.alloc (.cells #[.slice bo l.length bcap] tCf) = Z at *
      generalize x3.heap.size = R2 at *
      have b1 := Gr.box1 H3.out.2.1
      have b2 := Gr.box1 H3.out.2.2.1
      have HS := Lib.hid (samecfg_any (good_fit HG.out.2) H3.out.2.2.2.1 H3.out.2.2.2.2)
      go_wp2_with fail
      refine HS.out.mono ?_
      rintro e x4 ⟨rfl, hx⟩
      have H4 := Lib.hid (And.intro (H3.out.1.trans (hx.mono H3.out.1.size)) (And.intro ((hx.block _ (Array.getElem?_eq_some_iff.1 H3.out.2.1).1).trans H3.out.2.1) (H3.out.2.2.2.1.below hx)))
      clear hx b1 b2 HS
      have b1 := Gr.box1 H4.out.2.1
      have HP := Lib.hid (pack_any l _ x4 H4.out.2.2 (tab_up HT.out H4.out.1) (fun _ => by rw [← HG.out.1]; have := HN.out; omega))
      go_wp2_with fail
      refine HP.out.mono ?_
      rintro e x5 ⟨hb5, ⟨h, -⟩ | ⟨-, g, bc, rfl, hown⟩⟩
      · rw [HG.out.2] at h; cases h
      have H5 := Lib.hid (H4.out.1.trans (hb5.mono H4.out.1.size))
      have c1 := conv_bytes hown
      have c2 := HC.out x5 H5.out
      rw [← HG.out.1] at c1 ⊢
      have hbe : ((bs ml).toList == (bs ml).toList) = true := beq_self_eq_true _
      clear hb5 hown b1 HP
      go_wp2_with fail
      go_ret
      exact ⟨rfl, H5.out⟩
end LawK10Unpacks
end Go.Proofs.YtopncohhagebbaaDoor
