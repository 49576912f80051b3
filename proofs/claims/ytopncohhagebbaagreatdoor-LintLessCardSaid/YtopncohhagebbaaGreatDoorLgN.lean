/-
  Layer 9, pure: the document's examples, reckoned.
  Layer 9: the document's examples, which each statement asks first, upon what the program's Check is to answer.
-/
import Derived.Test.YtopncohhagebbaaGreatDoorLgK
import Derived.Test.YtopncohhagebbaaGreatDoorGrAwake
namespace Go.Proofs.YtopncohhagebbaaGreatDoor
open Go.RowKit
namespace Lt
open Tr (Nd none0 size)
open Gr (Al Rl Ty answer config ansF parseA runes_of)
open Cn (gC ShortC fewC)

theorem parseA_of {s : ByteArray} {q : List Nat} (h : s.data.toList = q.map Nat.toUInt8) (hq : ∀ r ∈ q, r < 128) (hl : q.length ≤ 3000) : parseA s = answer [] config (ansF q) := by
  rw [parseA, runes_of h hq, Gr.ansF_eq hl]
def txA : List Nat := [116, 121, 112, 101, 32, 117, 115, 101, 114, 32, 123, 125, 32, 116, 121, 112, 101, 32, 116, 32, 123, 32, 114, 101, 108, 32, 97, 32, 91, 117, 115, 101, 114, 93, 32, 61, 32, 116, 104, 105, 115, 32, 45, 32, 98, 59, 32, 114, 101, 108, 32, 98, 32, 61, 32, 97, 59, 32, 125]
def txB : List Nat := [116, 121, 112, 101, 32, 117, 115, 101, 114, 32, 123, 125, 32, 116, 121, 112, 101, 32, 116, 32, 123, 32, 114, 101, 108, 32, 97, 32, 61, 32, 98, 59, 32, 114, 101, 108, 32, 98, 32, 91, 117, 115, 101, 114, 93, 32, 61, 32, 116, 104, 105, 115, 59, 32, 125]
def sA : ByteArray := ⟨#[116, 121, 112, 101, 32, 117, 115, 101, 114, 32, 123, 125, 32, 116, 121, 112, 101, 32, 116, 32, 123, 32, 114, 101, 108, 32, 97, 32, 91, 117, 115, 101, 114, 93, 32, 61, 32, 116, 104, 105, 115, 32, 45, 32, 98, 59, 32, 114, 101, 108, 32, 98, 32, 61, 32, 97, 59, 32, 125]⟩
def sB : ByteArray := ⟨#[116, 121, 112, 101, 32, 117, 115, 101, 114, 32, 123, 125, 32, 116, 121, 112, 101, 32, 116, 32, 123, 32, 114, 101, 108, 32, 97, 32, 61, 32, 98, 59, 32, 114, 101, 108, 32, 98, 32, 91, 117, 115, 101, 114, 93, 32, 61, 32, 116, 104, 105, 115, 59, 32, 125]⟩
theorem sA_is : parseA sA = answer [] config (ansF txA) := parseA_of (by decide) (by decide) (by decide)
theorem sB_is : parseA sB = answer [] config (ansF txB) := parseA_of (by decide) (by decide) (by decide)
def cfA : List Ty := (answer [] config (ansF txA)).1
def cfB : List Ty := (answer [] config (ansF txB)).1
theorem okA : (answer [] config (ansF txA)).2.2 = 0 := by decide +kernel
theorem okB : (answer [] config (ansF txB)).2.2 = 0 := by decide +kernel
theorem goodA : gC cfA = true ∧ few9 cfA = true ∧ (namesP cfA).2.2 = 0 := by decide +kernel
theorem goodB : gC cfB = true ∧ few9 cfB = true ∧ (namesP cfB).2.2 = 0 := by decide +kernel
theorem itsA : (items cfA).map (fun a => (a.1.data.toList, a.2.data.toList)) = [([116], [97]), ([116], [98])] := by decide +kernel
theorem itsB : (items cfB).length = 2 := by decide +kernel
theorem edgesA : edge cfA 0 1 = 1 ∧ edge cfA 1 0 = 0 := by decide +kernel
theorem edgesB : ∀ i, i < 2 → ∀ k, k < 2 → edge cfB i k ≠ 1 := by decide +kernel
end Lt
end Go.Proofs.YtopncohhagebbaaGreatDoor

namespace Go.Proofs.YtopncohhagebbaaGreatDoor
open Go.RowKit
namespace Lt
open Tr (Nd none0 size)
open Gr (Al Rl Ty IsCf CfS answer config ansF parseA Glob tCf tPl box1 box2 two_boxes)
open Sg (plV)
open Cn (gC gT gR gA ShortC ShortR)

theorem nil_none {a : ByteArray} (h : Tr.nil a = true) : a = none0 := by
  cases a with
  | mk d =>
    have h2 : d.toList = [] := by simpa [Tr.nil] using h
    have : d = #[] := by cases d; simp at h2; subst h2; rfl
    subst this
    rfl
theorem word_len {s : ByteArray} (h : Tr.word s = true) : s.size ≤ maxLen := by
  simp [Tr.word, Gly.nameB] at h
  unfold maxLen
  omega
theorem gC_short {l : List Ty} (h : gC l = true) : ShortC l := fun t ht => by
  have h1 := List.all_eq_true.1 h t ht
  rw [gT, Bool.and_eq_true] at h1
  refine ⟨word_len h1.1, fun r hr => ?_⟩
  have h2 := List.all_eq_true.1 h1.2 r hr
  rw [gR, Bool.and_eq_true, Bool.and_eq_true] at h2
  refine ⟨word_len h2.1.1, fun a ha => ?_⟩
  have h3 := List.all_eq_true.1 h2.2 a ha
  rw [gA, Bool.and_eq_true, Bool.or_eq_true, Bool.and_eq_true] at h3
  refine ⟨word_len h3.1, ?_⟩
  rcases h3.2 with h4 | h4
  · rw [nil_none h4]; decide
  · exact word_len h4.1
theorem outA {S : Nat → Int} {t r : ByteArray} {code : Int} {its : List It} (h : CheckOut cfA S t r code its) : code = 16 ∧ t = ⟨#[116]⟩ ∧ r = ⟨#[97]⟩ := by
  have hn : (items cfA).length = 2 := by have := congrArg List.length itsA; simpa using this
  have hr : Rnd (items cfA).length (edge cfA) 0 := ⟨[0] ++ [], .join (m := 1) (.odd (by omega) (by omega) edgesA.1) (.even (by omega) (by omega) edgesA.2), by simp⟩
  rcases h with ⟨a1, -⟩ | ⟨-, a2, -⟩ | ⟨-, -, -, a4, i, a, a5, a6, a7, -, a9⟩ | ⟨-, -, -, -, -, -, a7, -⟩
  · rw [goodA.1] at a1; cases a1
  · exact absurd goodA.2.2 a2
  · have hi : i = 0 := by
      rcases Nat.eq_zero_or_pos i with h | h
      · exact h
      · exact absurd hr (a9 0 h)
    subst hi
    have h0 := congrArg (fun l => l[0]?) itsA
    simp only [List.getElem?_map, a5] at h0
    simp at h0
    refine ⟨a4, ?_, ?_⟩
    · rw [a6]
      obtain ⟨⟨x⟩, y⟩ := a
      simp only at h0 ⊢
      rw [show x = #[116] from by rw [← h0.1]]
    · rw [a7]
      obtain ⟨x, ⟨y⟩⟩ := a
      simp only at h0 ⊢
      rw [show y = #[97] from by rw [← h0.2]]
  · exact absurd hr (a7 0 (by omega))
theorem no_odd {n : Nat} {e : Nat → Nat → Int} (h : ∀ i, i < n → ∀ k, k < n → e i k ≠ 1) {i k : Nat} {L : List Nat} (hw : Way n e i k L) : L = [] := by
  induction hw with
  | even _ _ _ => rfl
  | odd hi hk h1 => exact absurd h1 (h _ hi _ hk)
  | join _ _ h1 h2 => rw [h1, h2]; rfl
theorem outB {S : Nat → Int} {t r : ByteArray} {code : Int} {its : List It} (h : CheckOut cfB S t r code its) : code = 0 ∧ its.length = 2 ∧ S 0 = 0 := by
  have hodd : ∀ i, i < (items cfB).length → ∀ k, k < (items cfB).length → edge cfB i k ≠ 1 := by rw [itsB]; exact edgesB
  rcases h with ⟨a1, -⟩ | ⟨-, a2, -⟩ | ⟨-, -, -, -, i, a, -, -, -, ⟨L, a8, a9⟩, -⟩ | ⟨-, -, a3, a4, -, -, -, a8⟩
  · rw [goodB.1] at a1; cases a1
  · exact absurd goodB.2.2 a2
  · exact absurd (no_odd hodd a8) a9
  · obtain ⟨s, h1, -, h2⟩ := a8 0 (by rw [itsB]; omega)
    refine ⟨a4, by rw [a3, itsB], ?_⟩
    rcases h2 with h2 | ⟨k, L, h3, h4⟩
    · rw [h1, h2]; rfl
    · rw [no_odd hodd h3] at h4
      rw [h1, ← h4]; rfl
theorem spot_eq (W : World) : (binOp .eql 29 (.agg #[.string ⟨#[116]⟩, .string ⟨#[97]⟩]) (.agg #[.string ⟨#[116]⟩, .string ⟨#[97]⟩])).run Tryz.prog W = .ok (.bool true) W := by go_simp

set_option maxHeartbeats 8000000 in
set_option maxRecDepth 100000 in
theorem awake_any (HCk : CheckOk) {a0 a1 : Addr} {w : World} (hg : Glob a0 a1 w) :
    Calls Tryz.prog 9 #[] w fun e y => e = .returned (.bool true) ∧ Below w.heap.size w y := by
  have HP1 := Lib.hid (Gr.Parse_any (s := sA) (by decide) hg)
  have HP2 := Lib.hid (fun y (hb : Below w.heap.size w y) => Gr.Parse_any (s := sB) (by decide) (hg.below hb))
  have HKA := Lib.hid (fun v x (h : IsCf x cfA v) => HCk cfA v x h (gC_short goodA.1) (few9_parts goodA.2.1).2.1 (few9_parts goodA.2.1).2.2.1 (few9_parts goodA.2.1).2.2.2)
  have HKB := Lib.hid (fun v x (h : IsCf x cfB v) => HCk cfB v x h (gC_short goodB.1) (few9_parts goodB.2.1).2.1 (few9_parts goodB.2.1).2.2.1 (few9_parts goodB.2.1).2.2.2)
  rw [sA_is, okA] at HP1
  rw [sB_is, okB] at HP2
  rw [show (answer [] config (ansF txA)).1 = cfA from rfl] at HP1
  rw [show (answer [] config (ansF txB)).1 = cfB from rfl] at HP2
  generalize (answer [] config (ansF txA)).2.1 = plA at *
  generalize (answer [] config (ansF txB)).2.1 = plB at *
  obtain ⟨pa1, pa2⟩ := plA
  obtain ⟨pb1, pb2⟩ := plB
  have HoA := Lib.hid (fun S t r code its (h : CheckOut cfA S t r code its) => outA h)
  have HoB := Lib.hid (fun S t r code its (h : CheckOut cfB S t r code its) => outB h)
  simp only [plV] at HP1 HP2
  generalize cfA = la at *
  generalize cfB = lb at *
  clear hg HCk
  go_enter Tryz.func9, Tryz.ntmps9
  go_wp2_with fail
  refine HP1.out.mono ?_
  rintro e y1 ⟨v1, rfl, hv1, by1⟩
  have hi1 : IsCf y1 la v1 := CfS.is hv1
  obtain ⟨o1, c1, us1, rfl, -⟩ := id hi1
  obtain ⟨p1, p2, p3, p4⟩ := two_boxes y1 #[.slice o1 la.length c1] #[.int .i64 pa1, .int .i64 pa2] tCf tPl
  have H1 := Lib.hid (And.intro (by1.trans (p1.mono by1.size)) (And.intro p2 (hi1.below p1)))
  clear hv1 by1 hi1 p1 p2 p3 p4 HP1
  go_wp2_with fail
  generalize (y1.alloc (.cells #[.slice o1 la.length c1] tCf)).alloc (.cells #[.int .i64 pa1, .int .i64 pa2] tPl) = A1 at *
  generalize y1.heap.size = R1 at *
  refine (HP2.out _ H1.out.1).mono ?_
  rintro e y2 ⟨v2, rfl, hv2, by2⟩
  have hi2 : IsCf y2 lb v2 := CfS.is hv2
  obtain ⟨o2, c2, us2, rfl, -⟩ := id hi2
  obtain ⟨p1, p2, p3, p4⟩ := two_boxes y2 #[.slice o2 lb.length c2] #[.int .i64 pb1, .int .i64 pb2] tCf tPl
  have b12 := by2.trans (p1.mono by2.size)
  have H2 := Lib.hid (And.intro (H1.out.1.trans (b12.mono H1.out.1.size)) (And.intro ((b12.block _ (Array.getElem?_eq_some_iff.1 H1.out.2.1).1).trans H1.out.2.1) (And.intro (H1.out.2.2.below b12) (And.intro p2 (hi2.below p1)))))
  clear hv2 by2 hi2 p1 p2 p3 p4 b12 H1 HP2
  have i0 := box1 H2.out.2.1
  go_wp2_with fail
  clear i0
  generalize (y2.alloc (.cells #[.slice o2 lb.length c2] tCf)).alloc (.cells #[.int .i64 pb1, .int .i64 pb2] tPl) = A2 at *
  generalize y2.heap.size = R2 at *
  refine (HKA.out _ _ H2.out.2.2.1).mono ?_
  rintro e y3 ⟨u, t, r, code, S, its, rfl, hck, -, hx⟩
  obtain ⟨rfl, rfl, rfl⟩ := HoA.out _ _ _ _ _ hck
  have al := Tr.fresh_one y3 (.cells #[.string ⟨#[116]⟩, .string ⟨#[97]⟩] 29)
  have hk := heap_alloc_new y3 (.cells #[.string ⟨#[116]⟩, .string ⟨#[97]⟩] 29)
  have hbx := hx.trans (al.mono hx.size)
  have H3 := Lib.hid (And.intro (H2.out.1.trans (hbx.mono H2.out.1.size)) (And.intro hk (And.intro ((hbx.block _ (Array.getElem?_eq_some_iff.1 H2.out.2.2.2.1).1).trans H2.out.2.2.2.1) (H2.out.2.2.2.2.below hbx))))
  clear hck hx al hk hbx H2
  have i0 := box1 H3.out.2.2.1
  go_wp2_with fail
  clear i0
  generalize y3.alloc (.cells #[.string ⟨#[116]⟩, .string ⟨#[97]⟩] 29) = A3 at *
  generalize y3.heap.size = R3 at *
  refine (HKB.out _ _ H3.out.2.2.2).mono ?_
  rintro e y4 ⟨u, t, r, code, S, its, rfl, hck, hpi, hx⟩
  obtain ⟨rfl, hlen, hS⟩ := HoB.out _ _ _ _ _ hck
  obtain ⟨pao, pcap, rfl, -⟩ := id hpi
  have al := Tr.fresh_one y4 (.cells #[.string t, .string r] 29)
  have hbx := hx.trans (al.mono hx.size)
  obtain ⟨gP, iP, -, lP, -, ⟨-, -, a2⟩, -⟩ := (hpi.below al).at (j := 0) (by omega) (Nat.le_refl 0)
  rw [hS] at a2
  have HF := Lib.hid (H3.out.1.trans (hbx.mono H3.out.1.size))
  obtain ⟨s0, s1⟩ := box2 ((hbx.block _ (Array.getElem?_eq_some_iff.1 H3.out.2.1).1).trans H3.out.2.1)
  rw [hlen] at iP ⊢
  have iP2 : ∀ W, (Instr.indexAt 27 (.slice pao 2 pcap) (.int .i64 0)).run Tryz.prog W = .ok (.pointer (some ⟨gP, 0, none⟩)) W := iP
  have a3 : (y4.alloc (.cells #[.string t, .string r] 29)).cell? ⟨gP, 2, none⟩ = some (.int .i64 0) := a2
  clear hck hpi hx al hbx H3 hS hlen iP a2
  have sp := spot_eq
  go_wp2_with fail
  go_ret
  exact ⟨rfl, HF.out⟩
end Lt
end Go.Proofs.YtopncohhagebbaaGreatDoor
