/-
  Layer 13: the program's Append.
-/
import Derived.Test.YtdodmjcbjknneaaSpWrite
namespace Go.Proofs.Ytdodmjcbjknneaa
set_option maxRecDepth 100000
open Go.RowKit
open Knot (Turns NewRow)
open Ta (IsBytes Stay sec nul ptr IsT Tray)
namespace Sp
/-- What an append makes of tray and spool, and its error. -/
def append (s : S) (b : List UInt8) (t : Tray (List UInt8)) : Tray (List UInt8) × S × Int :=
  if 60000 < b.length then (t, s, 1) else if s.count + s.head < parts b.length + s.tail then (t, s, 3) else if s.dead then (t, s, 20) else
    if (wrote s b (parts b.length) t).2 then ((wrote s b (parts b.length) t).1, { s with tail := s.tail + parts b.length }, 0) else ((wrote s b (parts b.length) t).1, { s with dead := true }, 20)
section
variable {w : World} {q p n : Nat} {s : S} {t : Tray (List UInt8)} {F : Nat → Prop}
theorem append_long {b : List UInt8} (h : 60000 < b.length) : append s b t = (t, s, 1) := if_pos h
theorem append_full {b : List UInt8} (h : ¬ 60000 < b.length) (h2 : s.count + s.head < parts b.length + s.tail) : append s b t = (t, s, 3) := by rw [append, if_neg h, if_pos h2]
theorem append_dead {b : List UInt8} (h : ¬ 60000 < b.length) (h2 : ¬ s.count + s.head < parts b.length + s.tail) (h3 : s.dead = true) : append s b t = (t, s, 20) := by rw [append, if_neg h, if_neg h2, if_pos h3]
theorem append_goes {b : List UInt8} (h : ¬ 60000 < b.length) (h2 : ¬ s.count + s.head < parts b.length + s.tail) (h3 : s.dead = false) (h4 : (wrote s b (parts b.length) t).2 = true) : append s b t = ((wrote s b (parts b.length) t).1, { s with tail := s.tail + parts b.length }, 0) := by
  rw [append, if_neg h, if_neg h2, if_neg (by simp [h3]), if_pos h4]
theorem append_stops {b : List UInt8} (h : ¬ 60000 < b.length) (h2 : ¬ s.count + s.head < parts b.length + s.tail) (h3 : s.dead = false) (h4 : (wrote s b (parts b.length) t).2 = false) : append s b t = ((wrote s b (parts b.length) t).1, { s with dead := true }, 20) := by
  rw [append, if_neg h, if_neg h2, if_neg (by simp [h3]), if_neg (by simp [h4])]
set_option maxHeartbeats 16000000 in
set_option maxRecDepth 100000 in
theorem append_any (v : Value) (b : List UInt8) (h : SpB w q p s) (hs : Fits s) (ht : IsT w p n t F) (hn : s.first + s.count ≤ n) (hq : ¬ F q) (hv : Stay F w fun x => IsBytes x v b) (hb : b.length ≤ 1000000) (hc : t.cache.length ≤ 90000) :
    Calls Try.prog 18 #[ptr q, v] w fun e x => e = .returned (.int .i64 (append s b t).2.2) ∧ Turns (fun k => F k ∨ k = q) w x ∧ SpB x q p (append s b t).2.1 ∧ ∃ F', IsT x p n (append s b t).1 F' ∧ (∀ k, F' k → F k ∨ w.heap.size ≤ k) := by
  have HS := Lib.hid (And.intro h (And.intro hs (And.intro ht (And.intro hn (And.intro hq (And.intro hv hc))))))
  obtain ⟨va, vc, rfl, -⟩ := hv.now
  have HPa := Lib.hid (fun x => parts_any b.length (by omega) x)
  have hsame : ∀ x, Below w.heap.size w x → Turns (fun k => F k ∨ k = q) w x ∧ SpB x q p s ∧ ∃ F', IsT x p n t F' ∧ (∀ k, F' k → F k ∨ w.heap.size ≤ k) := fun x hx => ⟨Turns.of_below hx, h.on hx, F, ht.below hx, fun _ h => .inl h⟩
  have HSame := Lib.hid hsame
  have htl := hs.tail
  have hhd := hs.head
  have hct := hs.count
  clear hsame h ht hn hq hv hc
  have hp1 : parts b.length = max 1 ((b.length + 107) / 108) := rfl
  have hpb : parts b.length ≤ 10000 := by omega
  have HPb := Lib.hid hp1
  clear hp1
  by_cases hlong : 60000 < b.length
  · rw [append_long hlong]
    have e1 : (60000 : Int) < (b.length : Int) := by omega
    clear hlong
    go_enter Try.func18, Try.ntmps18
    go_wp2_with fail
    refine (HPa.out w).mono ?_
    rintro e x ⟨rfl, hx⟩
    rw [hx]
    clear hx x
    go_wp2_with fail
    go_ret
    exact ⟨rfl, HSame.out w (Below.refl _ _)⟩
  · have e1 : ¬ (60000 : Int) < (b.length : Int) := by omega
    have hpo : parts b.length ≤ 4096 := by have := HPb.out; omega
    generalize hpq : parts b.length = P at *
    have HPq := Lib.hid hpq
    have HRo := Lib.hid (room_any HS.out.1 HS.out.2.1)
    by_cases hfull : s.count + s.head < P + s.tail
    · rw [append_full hlong (by rw [hpq]; exact hfull)]
      have e2 : (s.count : Int) - ((s.tail : Int) - (s.head : Int)) < (P : Int) := by omega
      clear hlong hfull hpq
      go_enter Try.func18, Try.ntmps18
      go_wp2_with fail
      refine (HPa.out w).mono ?_
      rintro e x ⟨rfl, hx⟩
      rw [hx]
      clear hx x
      go_wp2_with fail
      refine HRo.out.mono ?_
      rintro e x ⟨rfl, hx⟩
      have HX := Lib.hid (HSame.out x hx)
      clear hx
      go_wp2_with fail
      go_ret
      exact ⟨rfl, HX.out⟩
    · have e2 : ¬ (s.count : Int) - ((s.tail : Int) - (s.head : Int)) < (P : Int) := by omega
      have HCl := Lib.hid (show ∀ x, Below w.heap.size w x → _ from fun x hx => (HS.out.1.on hx).cells)
      by_cases hdead : s.dead = true
      · rw [append_dead hlong (by rw [hpq]; exact hfull) hdead]
        clear hlong hfull hpq
        go_enter Try.func18, Try.ntmps18
        go_wp2_with fail
        refine (HPa.out w).mono ?_
        rintro e x ⟨rfl, hx⟩
        rw [hx]
        clear hx x
        go_wp2_with fail
        refine HRo.out.mono ?_
        rintro e x ⟨rfl, hx⟩
        have HX := Lib.hid (HSame.out x hx)
        obtain ⟨-, -, -, -, -, -, k6⟩ := HCl.out x hx
        rw [hdead] at k6
        clear hx
        go_wp2_with fail
        go_ret
        exact ⟨rfl, HX.out⟩
      · have hd : s.dead = false := by simpa using hdead
        have HWr := Lib.hid (show ∀ x, Below w.heap.size w x → _ from fun x hx => write_any (.slice va b.length vc) b P (HS.out.1.on hx) HS.out.2.1 (HS.out.2.2.1.below hx) HS.out.2.2.2.1 HS.out.2.2.2.2.1 (HS.out.2.2.2.2.2.1.below hx) (by omega) hpo (by have := HPb.out; omega) (by have := HS.out.2.2.2.2.2.2; omega))
        go_enter Try.func18, Try.ntmps18
        go_wp2_with fail
        refine (HPa.out w).mono ?_
        rintro e x ⟨rfl, hx⟩
        rw [hx]
        clear hx x
        have HNo := Lib.hid (And.intro hlong (And.intro hfull (And.intro hd hpq)))
        clear hlong hfull hdead hpq
        go_wp2_with fail
        refine HRo.out.mono ?_
        rintro e x ⟨rfl, hx⟩
        obtain ⟨-, -, -, -, -, -, k6⟩ := HCl.out x hx
        rw [hd] at k6
        have HX := Lib.hid hx
        clear hx hd
        go_wp2_with fail
        clear k6
        refine (HWr.out x HX.out).mono ?_
        rintro e y ⟨rfl, hty, F', hiy, hF'⟩
        have hwy : Turns F w y := Turns.after_below HX.out hty
        have hby : SpB y q p s := HS.out.1.turn hwy HS.out.2.2.2.2.1
        obtain ⟨c0, c1, c2, c3, c4, c5, c6⟩ := hby.cells
        have f4 := hby.free 4
        have f6 := hby.free 6
        have hqF' : ¬ F' q := fun h => by
          rcases hF' q h with h | h
          · exact HS.out.2.2.2.2.1 h
          · have := HS.out.1.lt; have := HX.out.size; omega
        have HY := Lib.hid (And.intro hwy (And.intro hby (And.intro hiy (And.intro hqF' (show ∀ k, F' k → F k ∨ w.heap.size ≤ k from fun k hk => (hF' k hk).imp id fun h => Nat.le_trans HX.out.size h)))))
        clear hty hwy hby hiy hqF' hF'
        obtain ⟨ok, hok⟩ : ∃ ok : Bool, ok = (wrote s b P t).2 := ⟨_, rfl⟩
        rw [← hok]
        cases ok with
        | true =>
          have hw : IntKind.i64.wrap ((s.tail : Int) + (P : Int)) = (s.tail : Int) + (P : Int) := by rw [IntKind.wrap_i64] <;> omega
          have HG := Lib.hid (append_goes (t := t) HNo.out.1 (by rw [HNo.out.2.2.2]; exact HNo.out.2.1) HNo.out.2.2.1 (by rw [HNo.out.2.2.2]; exact hok.symm))
          clear hok
          obtain ⟨N, hN⟩ : ∃ N, N = y.setCell ⟨q, 4, none⟩ (.int .i64 ((s.tail : Int) + (P : Int))) := ⟨_, rfl⟩
          have ht := turn1 y q 4 (.int .i64 ((s.tail : Int) + (P : Int)))
          have hb := HY.out.2.1.set 4 (.int .i64 ((s.tail : Int) + (P : Int)))
          rw [← hN] at ht hb
          have HN := Lib.hid (And.intro ht hb)
          clear ht hb
          go_wp2_with fail
          rw [← hN]
          go_ret
          rw [HG.out]
          refine ⟨rfl, (HY.out.1.mono fun _ _ h => .inl h).trans HN.out.1 fun k _ e => .inr e, ?_, F', by rw [HNo.out.2.2.2]; exact HY.out.2.2.1.turn HN.out.1 fun k hk e => HY.out.2.2.2.1 (e ▸ hk), HY.out.2.2.2.2⟩
          unfold SpB
          rw [HN.out.2, HNo.out.2.2.2]
          simp [boxS]
        | false =>
          have HG := Lib.hid (append_stops (t := t) HNo.out.1 (by rw [HNo.out.2.2.2]; exact HNo.out.2.1) HNo.out.2.2.1 (by rw [HNo.out.2.2.2]; exact hok.symm))
          clear hok
          obtain ⟨N, hN⟩ : ∃ N, N = y.setCell ⟨q, 6, none⟩ (.bool true) := ⟨_, rfl⟩
          have ht := turn1 y q 6 (.bool true)
          have hb := HY.out.2.1.set 6 (.bool true)
          rw [← hN] at ht hb
          have HN := Lib.hid (And.intro ht hb)
          clear ht hb
          go_wp2_with fail
          rw [← hN]
          go_ret
          rw [HG.out]
          refine ⟨rfl, (HY.out.1.mono fun _ _ h => .inl h).trans HN.out.1 fun k _ e => .inr e, ?_, F', by rw [HNo.out.2.2.2]; exact HY.out.2.2.1.turn HN.out.1 fun k hk e => HY.out.2.2.2.1 (e ▸ hk), HY.out.2.2.2.2⟩
          unfold SpB
          rw [HN.out.2]
          simp [boxS]
end
end Sp
end Go.Proofs.Ytdodmjcbjknneaa
