/-
  Layer 4 (knot): a list of tuples tied. What is asked: the library's table of powers of ten.
-/
import Derived.Test.YtoeaapomjjclaaaDoorTups
namespace Go.Proofs.YtoeaapomjjclaaaDoor
open Go.RowKit Go.Sort
namespace Knot
open Who (bs bs_list bs_size bs_self eq_of_list)
open Bond (L3)

theorem IsTups.under {w x : World} {B : Nat} {v : Value} {l : List (L3 × L3)} (h : IsTups w v l) (hb : Below B w x) (hv : l ≠ [] → ∀ k, v.ownBlock = some k → k < B) : IsTups x v l := by
  obtain ⟨ao, cap, rfl, hc⟩ := h
  refine ⟨ao, cap, rfl, fun hl => ?_⟩
  obtain ⟨b, o, rfl, hd⟩ := hc hl
  refine ⟨b, o, rfl, fun i hi j u hu => ?_⟩
  exact (hb.cell (p := ⟨b, o + i * 6 + j, none⟩) (hv hl b rfl)).trans (hd i hi j u hu)
theorem IsTups.lt {w : World} {v : Value} {l : List (L3 × L3)} (h : IsTups w v l) (hl : l ≠ []) : ∀ k, v.ownBlock = some k → k < w.heap.size := by
  intro k hk
  obtain ⟨b, q, -, hb, ho, -⟩ := h.at (i := 0) (List.length_pos_iff.2 hl)
  rw [ho] at hk
  obtain rfl := Option.some.inj hk
  exact hb
/-- All texts of all tuples are bounded. -/
def SmallAll (n : Nat) (l : List (L3 × L3)) : Prop := ∀ p ∈ l, Small n p.1 ∧ Small n p.2
theorem flat_len (l : List (L3 × L3)) (k : Nat) (hk : k < l.length) : ((l.take k).flatMap tupleB).length + (tupleB l[k]).length ≤ (l.flatMap tupleB).length := by
  have h := congrArg List.length (flat_take l k hk)
  rw [List.length_append] at h
  have h2 : (l.flatMap tupleB).length = ((l.take (k + 1)).flatMap tupleB).length + ((l.drop (k + 1)).flatMap tupleB).length := by
    rw [← List.length_append, ← List.flatMap_append, List.take_append_drop]
  omega

set_option maxHeartbeats 4000000 in
set_option maxRecDepth 100000 in
theorem ktuples_any (B K : Nat) (v : Value) (l : List UInt8) (tv : Value) (ts : List (L3 × L3)) (w : World) (h : Kn B w K v l) (ht : IsTups w tv ts) (hv : ts ≠ [] → ∀ k, tv.ownBlock = some k → k < B) (hs : l.length + (tuplesB ts).length ≤ 60000000) (hsm : SmallAll 4000000 ts) (hn : ts.length ≤ 1000000) (htab : Tab B w) :
    Calls Tryd.prog 14 #[ptr K, tv] w (Tied B K v l (tuplesB ts) w) := by
  obtain ⟨ao, cap, rfl⟩ := ht.len
  have hl : (tuplesB ts).length = (number ts.length).length + (ts.flatMap tupleB).length := by rw [tuplesB, List.length_append]
  have N := num_any B K ts.length v l w h (by omega) (by omega) htab
  have TT := fun (v' : Value) (m : List UInt8) (p : L3 × L3) (x : World) (hp : p ∈ ts) (hk : Kn B x K v' m) (hm : m.length + (tupleB p).length ≤ 60000000) (hb : Below B w x) => ktuple_any B K v' m p x hk hm (hsm p hp).1 (hsm p hp).2 (htab.on hb)
  have HN := Lib.hid N
  have H := Lib.hid (And.intro h (And.intro ht (And.intro hv TT)))
  clear h ht hv hsm htab N TT
  go_enter Tryd.func14, Tryd.ntmps14
  go_wp2_with fail
  refine HN.out.mono ?_
  rintro e w1 ⟨rfl, v1, k1, s1⟩
  have H1 := Lib.hid (And.intro k1 s1)
  clear k1 s1 HN
  go_wp2
  go_loopw [12] (fun c wr => ∃ (i : Nat) (vi : Value), c = .int .i64 i ∧ Hid (Kn B wr K vi (l ++ number ts.length ++ (ts.take i).flatMap tupleB) ∧ KStep K v vi w wr) ∧ i ≤ ts.length) (fun c _ => ts.length - (intOf c).toNat)
  case atStart => exact ⟨0, v1, rfl, by exact Lib.hid ⟨by simpa using H1.out.1, H1.out.2⟩, by omega⟩
  case round =>
    obtain ⟨i, vi, rfl, HI, hi⟩ := hrel
    by_cases hlt : i < ts.length
    · have hb : Below B w wr := HI.out.2.below H.out.1
      have htu := H.out.2.1.under hb H.out.2.2.1
      obtain ⟨b, q, hix, hblt, -, c0, c1, c2, c3, c4, c5⟩ := htu.at hlt
      have hka := HI.out.1.alloc (.cells (cells6 ts[i]).toArray 38)
      have hsa : KStep K v vi w (wr.alloc (.cells (cells6 ts[i]).toArray 38)) := HI.out.2.then_below ((Below.refl _ _).alloc (Nat.le_refl _) _)
      have hfl := flat_len ts i hlt
      have C := Lib.hid (H.out.2.2.2 vi _ ts[i] _ (List.getElem_mem _) hka (by rw [List.length_append, List.length_append]; omega) (hsa.below H.out.1))
      have HA := Lib.hid hsa
      clear hka hsa hb htu HI
      go_wp2_with fail
      refine C.out.mono ?_
      rintro e w2 ⟨rfl, v2, k2, s2⟩
      have H2 := Lib.hid (And.intro k2 (HA.out.trans s2))
      clear k2 s2 C HA c0 c1 c2 c3 c4 c5 hix
      go_wp2
      go_roundw
      case rel => exact ⟨i + 1, v2, by go_num, by rw [flat_take ts i hlt, ← List.append_assoc]; exact Lib.hid H2.out, by omega⟩
      case measure => simp [intOf]; omega
    · have hie : i = ts.length := by omega
      subst hie
      go_wp2
      go_end0
      refine ⟨rfl, vi, ?_, HI.out.2⟩
      have hk := HI.out.1
      rw [List.take_length, List.append_assoc] at hk
      exact hk
end Knot
end Go.Proofs.YtoeaapomjjclaaaDoor
