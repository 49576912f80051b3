/-
  Layer 11: the document's examples, which each statement asks first.
-/
import Derived.Test.YtopncohhagebbaaGreatDoorLoP
import Derived.Test.YtopncohhagebbaaGreatDoorGrAwake
import Derived.Test.YtopncohhagebbaaGreatDoorBgC
namespace Go.Proofs.YtopncohhagebbaaGreatDoor
open Go.RowKit
namespace Lo
open Tr (Nd none0)
open Gr (Al Rl Ty IsCf CfS answer config ansF parseA Glob tCf tPl box1 box2 box6 runes_of)
open Sg (plV)
open Bond (L3 prV pr tupV)
open Who (bs bs_list)

theorem parseA_is {s : ByteArray} {q : List Nat} (h : s.data.toList = q.map Nat.toUInt8) (hq : ∀ r ∈ q, r < 128) (hl : q.length ≤ 3000) : parseA s = answer [] config (ansF q) := by
  rw [parseA, runes_of h hq, Gr.ansF_eq hl]
def txL : List Nat := [116, 121, 112, 101, 32, 117, 115, 101, 114, 32, 123, 125, 32, 116, 121, 112, 101, 32, 103, 114, 111, 117, 112, 32, 123, 32, 114, 101, 108, 32, 109, 101, 109, 98, 101, 114, 32, 91, 117, 115, 101, 114, 93, 32, 61, 32, 116, 104, 105, 115, 59, 32, 125, 32, 116, 121, 112, 101, 32, 100, 111, 99, 32, 123, 32, 114, 101, 108, 32, 118, 105, 101, 119, 101, 114, 32, 91, 117, 115, 101, 114, 44, 32, 103, 114, 111, 117, 112, 35, 109, 101, 109, 98, 101, 114, 93, 32, 61, 32, 116, 104, 105, 115, 59, 32, 125]
def sL : ByteArray := ⟨#[116, 121, 112, 101, 32, 117, 115, 101, 114, 32, 123, 125, 32, 116, 121, 112, 101, 32, 103, 114, 111, 117, 112, 32, 123, 32, 114, 101, 108, 32, 109, 101, 109, 98, 101, 114, 32, 91, 117, 115, 101, 114, 93, 32, 61, 32, 116, 104, 105, 115, 59, 32, 125, 32, 116, 121, 112, 101, 32, 100, 111, 99, 32, 123, 32, 114, 101, 108, 32, 118, 105, 101, 119, 101, 114, 32, 91, 117, 115, 101, 114, 44, 32, 103, 114, 111, 117, 112, 35, 109, 101, 109, 98, 101, 114, 93, 32, 61, 32, 116, 104, 105, 115, 59, 32, 125]⟩
theorem sL_is : parseA sL = answer [] config (ansF txL) := parseA_is (by decide) (by decide) (by decide)
def cfL : List Ty := (answer [] config (ansF txL)).1
theorem okL : (answer [] config (ansF txL)).2.2 = 0 := by decide +kernel
def s0 : ByteArray := ⟨#[100, 111, 99, 58, 97, 35, 118, 105, 101, 119, 101, 114, 64, 117, 115, 101, 114, 58, 98]⟩
def p0 : L3 × L3 := (([100, 111, 99], [97], [118, 105, 101, 119, 101, 114]), ([117, 115, 101, 114], [98], []))
theorem read0 : pr s0.data.toList = some p0 := by decide +kernel
theorem fit0 : fitB cfL p0 = 0 := by decide +kernel
theorem get0 (x : World) : Calls Tryz.prog 40 #[.string s0] x fun e y => e = .returned (.tuple #[agg6 p0, .int .i64 0]) ∧ Below x.heap.size x y := by
  have h := Bond.bread_any s0 x (by decide)
  rw [read0] at h
  exact h
def s1 : ByteArray := ⟨#[100, 111, 99, 58, 97, 35, 118, 105, 101, 119, 101, 114, 64, 117, 115, 101, 114, 58, 42]⟩
def p1 : L3 × L3 := (([100, 111, 99], [97], [118, 105, 101, 119, 101, 114]), ([117, 115, 101, 114], [42], []))
theorem read1 : pr s1.data.toList = some p1 := by decide +kernel
theorem fit1 : fitB cfL p1 = 15 := by decide +kernel
theorem get1 (x : World) : Calls Tryz.prog 40 #[.string s1] x fun e y => e = .returned (.tuple #[agg6 p1, .int .i64 0]) ∧ Below x.heap.size x y := by
  have h := Bond.bread_any s1 x (by decide)
  rw [read1] at h
  exact h
def s2 : ByteArray := ⟨#[100, 111, 99, 58, 97, 35, 111, 119, 110, 101, 114, 64, 117, 115, 101, 114, 58, 98]⟩
def p2 : L3 × L3 := (([100, 111, 99], [97], [111, 119, 110, 101, 114]), ([117, 115, 101, 114], [98], []))
theorem read2 : pr s2.data.toList = some p2 := by decide +kernel
theorem fit2 : fitB cfL p2 = 13 := by decide +kernel
theorem get2 (x : World) : Calls Tryz.prog 40 #[.string s2] x fun e y => e = .returned (.tuple #[agg6 p2, .int .i64 0]) ∧ Below x.heap.size x y := by
  have h := Bond.bread_any s2 x (by decide)
  rw [read2] at h
  exact h

set_option maxHeartbeats 8000000 in
set_option maxRecDepth 100000 in
theorem awake_any {a0 a1 : Addr} {w : World} (hg : Glob a0 a1 w) :
    Calls Tryz.prog 15 #[] w fun e y => e = .returned (.bool true) ∧ Below w.heap.size w y := by
  have HP := Lib.hid (Gr.Parse_any (s := sL) (by decide) hg)
  rw [sL_is, okL] at HP
  rw [show (answer [] config (ansF txL)).1 = cfL from rfl] at HP
  generalize (answer [] config (ansF txL)).2.1 = pl at *
  obtain ⟨pa, pb⟩ := pl
  simp only [plV] at HP
  have HG0 := Lib.hid get0
  have HG1 := Lib.hid get1
  have HG2 := Lib.hid get2
  have HF0 := Lib.hid (fun v x (h : IsCf x cfL v) => fit_any cfL v x h p0)
  have HF1 := Lib.hid (fun v x (h : IsCf x cfL v) => fit_any cfL v x h p1)
  have HF2 := Lib.hid (fun v x (h : IsCf x cfL v) => fit_any cfL v x h p2)
  rw [fit0] at HF0
  rw [fit1] at HF1
  rw [fit2] at HF2
  generalize cfL = l at *
  rw [show s0 = _ from rfl] at HG0
  rw [show s1 = _ from rfl] at HG1
  rw [show s2 = _ from rfl] at HG2
  generalize p0 = q0 at *
  generalize p1 = q1 at *
  generalize p2 = q2 at *
  clear hg
  go_enter Tryz.func15, Tryz.ntmps15
  go_wp2_with fail
  refine HP.out.mono ?_
  rintro e y1 ⟨v1, rfl, hv1, by1⟩
  have hi1 : IsCf y1 l v1 := CfS.is hv1
  obtain ⟨o1, c1, us1, rfl, -⟩ := id hi1
  have hw : On w [] y1 := (On.start w).step by1
  have hn1 : (y1.alloc (.cells #[.slice o1 l.length c1] tCf)).heap.size = y1.heap.size + 1 := by simp
  have HA := Lib.hid ((hw.new #[.slice o1 l.length c1] tCf rfl).new #[.int .i64 pa, .int .i64 pb] tPl hn1).tail
  have al := (Tr.fresh_one y1 (.cells #[.slice o1 l.length c1] tCf)).trans ((Tr.fresh_one (y1.alloc (.cells #[.slice o1 l.length c1] tCf)) (.cells #[.int .i64 pa, .int .i64 pb] tPl)).mono (by simp))
  have HC := Lib.hid (hi1.below al)
  clear hv1 by1 hi1 al hw hn1 HP
  go_wp2_with fail
  generalize (y1.alloc (.cells #[.slice o1 l.length c1] tCf)).alloc (.cells #[.int .i64 pa, .int .i64 pb] tPl) = A at *
  generalize y1.heap.size = R at *
  refine (HG0.out _).mono ?_
  rintro e z0 ⟨rfl, hx⟩
  have al0 := hx.trans ((Tr.fresh_one z0 (.cells #[.string (bs q0.1.1), .string (bs q0.1.2.1), .string (bs q0.1.2.2), .string (bs q0.2.1), .string (bs q0.2.2.1), .string (bs q0.2.2.2)] 57)).mono hx.size)
  have HA1 := Lib.hid ((HA.out.step hx).new #[.string (bs q0.1.1), .string (bs q0.1.2.1), .string (bs q0.1.2.2), .string (bs q0.2.1), .string (bs q0.2.2.1), .string (bs q0.2.2.2)] 57 rfl)
  have HC1 := Lib.hid (HC.out.below al0)
  clear hx al0
  go_wp2_with fail
  generalize z0.alloc (.cells #[.string (bs q0.1.1), .string (bs q0.1.2.1), .string (bs q0.1.2.2), .string (bs q0.2.1), .string (bs q0.2.2.1), .string (bs q0.2.2.2)] 57) = A0 at *
  generalize z0.heap.size = R0 at *
  refine (HG1.out _).mono ?_
  rintro e z1 ⟨rfl, hx⟩
  have al1 := hx.trans ((Tr.fresh_one z1 (.cells #[.string (bs q1.1.1), .string (bs q1.1.2.1), .string (bs q1.1.2.2), .string (bs q1.2.1), .string (bs q1.2.2.1), .string (bs q1.2.2.2)] 57)).mono hx.size)
  have HA2 := Lib.hid ((HA1.out.step hx).new #[.string (bs q1.1.1), .string (bs q1.1.2.1), .string (bs q1.1.2.2), .string (bs q1.2.1), .string (bs q1.2.2.1), .string (bs q1.2.2.2)] 57 rfl)
  have HC2 := Lib.hid (HC1.out.below al1)
  clear hx al1
  go_wp2_with fail
  generalize z1.alloc (.cells #[.string (bs q1.1.1), .string (bs q1.1.2.1), .string (bs q1.1.2.2), .string (bs q1.2.1), .string (bs q1.2.2.1), .string (bs q1.2.2.2)] 57) = A1 at *
  generalize z1.heap.size = R1 at *
  refine (HG2.out _).mono ?_
  rintro e z2 ⟨rfl, hx⟩
  have al2 := hx.trans ((Tr.fresh_one z2 (.cells #[.string (bs q2.1.1), .string (bs q2.1.2.1), .string (bs q2.1.2.2), .string (bs q2.2.1), .string (bs q2.2.2.1), .string (bs q2.2.2.2)] 57)).mono hx.size)
  have HA3 := Lib.hid ((HA2.out.step hx).new #[.string (bs q2.1.1), .string (bs q2.1.2.1), .string (bs q2.1.2.2), .string (bs q2.2.1), .string (bs q2.2.2.1), .string (bs q2.2.2.2)] 57 rfl)
  have HC3 := Lib.hid (HC2.out.below al2)
  clear hx al2
  have b0 := box1 HA3.out.at3
  obtain ⟨d0, d1, d2, d3, d4, d5⟩ := box6 HA3.out.at2
  go_wp2_with fail
  generalize z2.alloc (.cells #[.string (bs q2.1.1), .string (bs q2.1.2.1), .string (bs q2.1.2.2), .string (bs q2.2.1), .string (bs q2.2.2.1), .string (bs q2.2.2.2)] 57) = A2 at *
  generalize z2.heap.size = R2 at *
  refine (HF0.out _ _ HC3.out).mono ?_
  rintro e f0 ⟨rfl, hx⟩
  have HA4 := Lib.hid (HA3.out.step hx)
  have HC4 := Lib.hid (HC3.out.below hx)
  clear hx b0 d0 d1 d2 d3 d4 d5
  have b0 := box1 HA4.out.at3
  obtain ⟨d0, d1, d2, d3, d4, d5⟩ := box6 HA4.out.at1
  go_wp2_with fail
  refine (HF1.out _ _ HC4.out).mono ?_
  rintro e f1 ⟨rfl, hx⟩
  have HA5 := Lib.hid (HA4.out.step hx)
  have HC5 := Lib.hid (HC4.out.below hx)
  clear hx b0 d0 d1 d2 d3 d4 d5
  have b0 := box1 HA5.out.at3
  obtain ⟨d0, d1, d2, d3, d4, d5⟩ := box6 HA5.out.at0
  go_wp2_with fail
  refine (HF2.out _ _ HC5.out).mono ?_
  rintro e f2 ⟨rfl, hx⟩
  have HA6 := Lib.hid (HA5.out.step hx)
  clear hx
  go_wp2_with fail
  go_ret
  exact ⟨rfl, HA6.out.below⟩
end Lo
end Go.Proofs.YtopncohhagebbaaGreatDoor
