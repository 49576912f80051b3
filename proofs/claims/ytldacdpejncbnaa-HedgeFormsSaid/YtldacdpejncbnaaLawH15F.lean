/-
  HedgeForms, walked: for every two lists of keys and every number it answers true.
-/
import Derived.Test.YtldacdpejncbnaaHgForm
import Derived.Test.YtldacdpejncbnaaOrd3
import Derived.Deep.DeepCutAuto
namespace Go.Proofs.Ytldacdpejncbnaa
open Go.RowKit
namespace Hg.LawH15F
open Knot (Turns NewRow)
open Tr (own_below own_slice)

/-- Two hedges that lie apart. -/
structure Duo (B : Nat) (w : World) (p1 : Nat) (t1 : T) (p2 : Nat) (t2 : T) : Prop where
  a : Al B p1 w t1
  b : Al B p2 w t2
  apart : ∀ i ∈ p1 :: t1.blks, i ∉ p2 :: t2.blks
section
variable {B p1 p2 : Nat} {w x : World} {t1 t2 : T} {L : List Ent}
theorem Duo.on (h : Duo B w p1 t1 p2 t2) (hb : Below w.heap.size w x) : Duo B x p1 t1 p2 t2 := ⟨h.a.on hb, h.b.on hb, h.apart⟩
theorem Duo.flip (h : Duo B w p1 t1 p2 t2) : Duo B w p2 t2 p1 t1 := ⟨h.b, h.a, fun i h2 h1 => h.apart i h1 h2⟩
theorem Duo.left (h : Duo B w p1 t1 p2 t2) (hB : B ≤ w.heap.size) (hb : Became w p1 t1 L x) : ∃ t', Duo B x p1 t' p2 t2 ∧ t'.ents = L ∧ Below B w x := by
  obtain ⟨t', h1, h2, h3, h4⟩ := hb
  have hlt := h.b.h.lt
  refine ⟨t', ⟨⟨h1, fun i hi => ?_⟩, ⟨h.b.h.turn h3 fun i hi hc => h.apart i hc hi, h.b.low⟩, fun i hi hc => ?_⟩, h2, h3.below hB fun k hk => h.a.low k hk⟩
  · rcases List.mem_cons.1 hi with rfl | hi
    · exact h.a.low _ List.mem_cons_self
    · rcases h4 i hi with h5 | h5
      · exact h.a.low i (List.mem_cons_of_mem _ h5)
      · omega
  · rcases List.mem_cons.1 hi with rfl | hi
    · exact h.apart _ List.mem_cons_self hc
    · rcases h4 i hi with h5 | h5
      · exact h.apart i (List.mem_cons_of_mem _ h5) hc
      · have := hlt i hc; omega
theorem Duo.right (h : Duo B w p1 t1 p2 t2) (hB : B ≤ w.heap.size) (hb : Became w p2 t2 L x) : ∃ t', Duo B x p1 t1 p2 t' ∧ t'.ents = L ∧ Below B w x := by
  obtain ⟨t', h1, h2, h3⟩ := h.flip.left hB hb
  exact ⟨t', h1.flip, h2, h3⟩
end
theorem k_of (b : Int) {n : Nat} (hn : 0 < n) (h2 : n ≤ 60) : ∃ k : Nat, k < n ∧ wrap64 ((IntKind.u64.wrap b).tmod (n : Int)) = (k : Int) := by
  have h0 : 0 ≤ IntKind.u64.wrap b := by rw [IntKind.wrap_u64]; omega
  obtain ⟨z, hz⟩ : ∃ z : Nat, IntKind.u64.wrap b = (z : Int) := ⟨(IntKind.u64.wrap b).toNat, by omega⟩
  rw [hz]
  have e : ((z : Int).tmod (n : Int)) = ((z % n : Nat) : Int) := rfl
  rw [e]
  have hl := Nat.mod_lt z hn
  exact ⟨z % n, hl, by unfold wrap64; omega⟩
theorem put_duoA {B p1 p2 : Nat} {w : World} {t1 t2 : T} (h : Duo B w p1 t1 p2 t2) (hB : B ≤ w.heap.size) (q : ByteArray) (x : Int) (hq : q.size ≤ keyMax) (hs : t1.ents.length < 40000) :
    Calls Try.prog 11 #[.pointer (some ⟨p1, 0, none⟩), .string q, .int .i64 x] w fun e y => e = .returned (.bool (get t1.ents q).isNone) ∧ ∃ t', Duo B y p1 t' p2 t2 ∧ t'.ents = put t1.ents q x ∧ Below B w y :=
  (put_row h.a.h q x hq (by rw [← T.ents_len]; exact hs)).mono fun _ _ ⟨h1, h2⟩ => ⟨h1, h.left hB h2⟩
theorem put_duoB {B p1 p2 : Nat} {w : World} {t1 t2 : T} (h : Duo B w p1 t1 p2 t2) (hB : B ≤ w.heap.size) (q : ByteArray) (x : Int) (hq : q.size ≤ keyMax) (hs : t2.ents.length < 40000) :
    Calls Try.prog 11 #[.pointer (some ⟨p2, 0, none⟩), .string q, .int .i64 x] w fun e y => e = .returned (.bool (get t2.ents q).isNone) ∧ ∃ t', Duo B y p1 t1 p2 t' ∧ t'.ents = put t2.ents q x ∧ Below B w y :=
  (put_row h.b.h q x hq (by rw [← T.ents_len]; exact hs)).mono fun _ _ ⟨h1, h2⟩ => ⟨h1, h.right hB h2⟩
theorem drop_duoB {B p1 p2 : Nat} {w : World} {t1 t2 : T} (h : Duo B w p1 t1 p2 t2) (hB : B ≤ w.heap.size) (q : ByteArray) :
    Calls Try.prog 13 #[.pointer (some ⟨p2, 0, none⟩), .string q] w fun e y => (∃ z, e = .returned (.int .i64 z)) ∧ ∃ t', Duo B y p1 t1 p2 t' ∧ t'.ents = drop t2.ents q ∧ Below B w y :=
  (drop_row h.b.h q).mono fun _ _ ⟨h1, h2⟩ => ⟨⟨_, h1⟩, h.right hB h2⟩
theorem lenA (keys : List ByteArray) (j : Nat) : (doN [] (gA keys) j).length ≤ j := by
  have := doN_len (g := gA keys) (L0 := []) List.Pairwise.nil (fun j L h => (gA_rises keys j L h).1) (fun j L h => (gA_rises keys j L h).2) j
  simpa using this
theorem lenB (more : List ByteArray) (j : Nat) : (doN [] (gB more) j).length ≤ j := by
  have := doN_len (g := gB more) (L0 := []) List.Pairwise.nil (fun j L h => (gB_rises more j L h).1) (fun j L h => (gB_rises more j L h).2) j
  simpa using this
theorem riseB (more : List ByteArray) (j : Nat) : Rises (doN [] (gB more) j) := doN_rises List.Pairwise.nil (fun j L h => (gB_rises more j L h).1) j
theorem lenC (keys more : List ByteArray) (k i j : Nat) : (doN (doN [] (gB more) i) (gC keys k) j).length ≤ i + j := by
  have h1 := doN_len (g := gC keys k) (riseB more i) (fun j L h => (gC_rises keys k j L h).1) (fun j L h => (gC_rises keys k j L h).2) j
  have h2 := lenB more i
  omega
theorem gA_step {keys : List ByteArray} {j : Nat} (h : j < keys.length) (L : List Ent) : gA keys j L = if Lib.idxOfS keys keys[j] = (j : Int) then put L keys[j] (j : Int) else L := by
  rw [gA, List.getElem?_eq_getElem h]
theorem gB_step {more : List ByteArray} {j : Nat} (h : j < more.length) (L : List Ent) : gB more j L = put L more[j] (-1) := by
  rw [gB, List.getElem?_eq_getElem h]
theorem gC_step {keys : List ByteArray} {k j : Nat} (h : (j + k) % keys.length < keys.length) (L : List Ent) : gC keys k j L = put L keys[(j + k) % keys.length] (Lib.idxOfS keys keys[(j + k) % keys.length]) := by
  rw [gC, List.getElem?_eq_getElem h]
theorem gD_step {keys more : List ByteArray} {j : Nat} (h : j < more.length) (L : List Ent) : gD keys more j L = if Lib.containsS keys more[j] = true then L else drop L more[j] := by
  rw [gD, List.getElem?_eq_getElem h]
set_option maxHeartbeats 8000000 in
set_option maxRecDepth 100000 in
theorem walk (l : List ByteArray) (v : Value) (by_ : Int) (m : List ByteArray) (mv : Value) (w : World) (hl : IsTx w v l) (hls : ∀ s ∈ l, s.size ≤ keyMax) (_hby : (Lit.int .i64 by_).wf = true) (hm : IsTx w mv m) (hms : ∀ s ∈ m, s.size ≤ keyMax) :
    Calls Try.prog 4 #[v, .int .i64 by_, mv] w fun e x => e = .returned (.bool true) ∧ Below w.heap.size w x := by
  obtain ⟨vo, vcap, rfl, hlx⟩ := id hl
  obtain ⟨mo, mcap, rfl, hmx⟩ := id hm
  have HL := Lib.hid (And.intro hl (And.intro hm (And.intro hms hls)))
  have HA := Lib.hid (fun w => awake_any w)
  clear hl hm hms hls hlx hmx
  by_cases hn : l.length ≤ 60 ∧ m.length ≤ 60 ∧ 0 < l.length
  · obtain ⟨hn1, hn2, hn3⟩ := hn
    go_enter Try.func4, Try.ntmps4
    go_wp2_with fail
    refine (new_al w).mono ?_
    rintro e x0 ⟨rfl, hA, hb0⟩
    obtain ⟨p1, hp1⟩ : ∃ p, p = w.heap.size := ⟨_, rfl⟩
    rw [← hp1] at hA ⊢
    have HB0 := Lib.hid (And.intro hA (And.intro hb0 hp1))
    clear hA hb0 hp1
    go_wp2_with fail
    refine (new_al x0).mono ?_
    rintro e x1 ⟨rfl, hA, hb1⟩
    obtain ⟨p2, hp2⟩ : ∃ p, p = x0.heap.size := ⟨_, rfl⟩
    rw [← hp2] at hA ⊢
    have hsz : p1 ≤ x0.heap.size := by have := HB0.out.2.1.size; have := HB0.out.2.2; omega
    have hlow : p1 < p2 := by have := HB0.out.1.h.lt p1 List.mem_cons_self; omega
    have hD : Duo p1 x1 p1 .nil p2 .nil := ⟨HB0.out.1.on hb1, ⟨hA.h, fun i hi => by have := hA.low i hi; omega⟩, fun i h1 h2 => by simp [T.blks] at h1 h2; omega⟩
    have HB1 := Lib.hid (And.intro hD (And.intro (HB0.out.2.1.trans (hb1.mono HB0.out.2.1.size)) HB0.out.2.2))
    clear hA hb1 hp2 hsz hlow hD HB0
    go_wp2_with fail
    refine (HA.out x1).mono ?_
    rintro e x2 ⟨rfl, hb2⟩
    have HB2 := Lib.hid (And.intro (HB1.out.1.on hb2) (And.intro (HB1.out.2.1.trans (hb2.mono HB1.out.2.1.size)) HB1.out.2.2))
    clear hb2 HB1
    have e0 : ((l.length : Int) == 0) = false := by rw [beq_eq_false_iff_ne]; omega
    go_upto_region 5 with fail
    obtain ⟨k, hk, hkk⟩ := k_of by_ (n := l.length) hn3 hn1
    rw [hkk]
    clear hkk e0
    go_wp2_with fail
    go_loopw [55] (fun i wr => ∃ (j : Nat) (t : T), j ≤ l.length ∧ i = .int .i64 (j : Int) ∧ Hid (Duo p1 wr p1 t p2 .nil ∧ t.ents = doN [] (gA l) j ∧ Below w.heap.size w wr)) (fun i _ => l.length - (intOf i).toNat)
    case atStart => exact ⟨0, .nil, Nat.zero_le _, rfl, HB2.out.1, rfl, HB2.out.2.1⟩
    case round =>
      obtain ⟨j, t, hj, rfl, HS⟩ := hrel
      by_cases hlt : j < l.length
      · obtain ⟨b, o, cap, he, hix, hc⟩ := (HL.out.1.on HS.out.2.2).at hlt
        obtain ⟨hg1, -, hg2⟩ := Value.slice.inj he
        subst hg1
        subst hg2
        have hstep := gA_step hlt (doN [] (gA l) j)
        have HI := Lib.hid (fun (z : World) (hz : Below w.heap.size w z) => idx_any (HL.out.1.on hz) (by omega) l[j])
        obtain ⟨s, hs⟩ : ∃ s, s = l[j] := ⟨_, rfl⟩
        rw [← hs] at hc hstep HI
        have HNx := Lib.hid hstep
        clear hstep hs
        by_cases hsz : s.size ≤ 200
        · obtain ⟨ix, hix2⟩ : ∃ ix, ix = Lib.idxOfS l s := ⟨_, rfl⟩
          rw [← hix2] at HI HNx
          clear hix2
          by_cases hij : ix = (j : Int)
          · have e1 : (ix == (j : Int)) = true := by rw [beq_iff_eq]; exact hij
            rw [if_pos hij] at HNx
            have hP := put_duoA HS.out.1 (by have := HS.out.2.2.size; have := HB2.out.2.2; omega) s (j : Int) (by unfold keyMax; omega) (by rw [HS.out.2.1]; have := lenA l j; omega)
            have HP := Lib.hid hP
            clear hP hij
            go_wp2_with fail
            refine (HI.out _ HS.out.2.2).mono ?_
            rintro e _ ⟨rfl, hx⟩
            rw [hx]
            clear hx
            go_wp2_with fail
            refine HP.out.mono ?_
            rintro e y ⟨rfl, t', h1, h2, h3⟩
            have HN := Lib.hid (And.intro h1 (And.intro (show t'.ents = doN [] (gA l) (j + 1) by rw [h2, doN, HNx.out, HS.out.2.1]) (HS.out.2.2.trans (by rw [← HB2.out.2.2]; exact h3))))
            clear h1 h2 h3
            go_wp2_with fail
            go_roundw
            case rel => exact ⟨j + 1, t', by omega, by go_num, HN⟩
            case measure => simp [intOf]; omega
          · have e1 : (ix == (j : Int)) = false := by rw [beq_eq_false_iff_ne]; exact hij
            rw [if_neg hij] at HNx
            have HN := Lib.hid (And.intro HS.out.1 (And.intro (show t.ents = doN [] (gA l) (j + 1) by rw [doN, HNx.out, HS.out.2.1]) HS.out.2.2))
            go_wp2_with fail
            refine (HI.out _ HS.out.2.2).mono ?_
            rintro e _ ⟨rfl, hx⟩
            rw [hx]
            clear hx
            go_wp2_with fail
            go_roundw
            case rel => exact ⟨j + 1, t, by omega, by go_num, HN⟩
            case measure => simp [intOf]; omega
        · go_wp2_with fail
          go_ret
          exact ⟨rfl, HS.out.2.2⟩
      · have hjl : j = l.length := by omega
        have hen := HS.out.2.1
        rw [hjl] at hen
        have HT1 := Lib.hid (And.intro HS.out.1 (And.intro hen HS.out.2.2))
        have HB2 := Lib.hid HB2.out.2.2
        clear hjl hen HS
        obtain ⟨ta, hta⟩ : ∃ ta, ta = t := ⟨_, rfl⟩
        rw [← hta] at HT1
        clear hta
        go_wp2_with fail
        go_loopw [75] (fun i wr => ∃ (j : Nat) (t : T), j ≤ m.length ∧ i = .int .i64 (j : Int) ∧ Hid (Duo p1 wr p1 ta p2 t ∧ t.ents = doN [] (gB m) j ∧ Below w.heap.size w wr)) (fun i _ => m.length - (intOf i).toNat)
        case atStart => exact ⟨0, .nil, Nat.zero_le _, rfl, HT1.out.1, rfl, HT1.out.2.2⟩
        case round =>
          obtain ⟨j, t, hj, rfl, HS⟩ := hrel
          by_cases hlt : j < m.length
          · obtain ⟨b, o, cap, he, hix, hc⟩ := (HL.out.2.1.on HS.out.2.2).at hlt
            obtain ⟨hg1, -, hg2⟩ := Value.slice.inj he
            subst hg1
            subst hg2
            have hstep := gB_step hlt (doN [] (gB m) j)
            have hsz := HL.out.2.2.1 _ (List.getElem_mem hlt)
            obtain ⟨s, hs⟩ : ∃ s, s = m[j] := ⟨_, rfl⟩
            rw [← hs] at hc hstep hsz
            have HNx := Lib.hid hstep
            have hP := put_duoB HS.out.1 (by have := HS.out.2.2.size; have := HB2.out; omega) s (-1) hsz (by rw [HS.out.2.1]; have := lenB m j; omega)
            have HP := Lib.hid hP
            clear hP hstep hs hsz
            go_wp2_with fail
            refine HP.out.mono ?_
            rintro e y ⟨rfl, t', h1, h2, h3⟩
            have HN := Lib.hid (And.intro h1 (And.intro (show t'.ents = doN [] (gB m) (j + 1) by rw [h2, doN, HNx.out, HS.out.2.1]) (HS.out.2.2.trans (by rw [← HB2.out]; exact h3))))
            clear h1 h2 h3
            go_wp2_with fail
            go_roundw
            case rel => exact ⟨j + 1, t', by omega, by go_num, HN⟩
            case measure => simp [intOf]; omega
          · have hjl : j = m.length := by omega
            have hen := HS.out.2.1
            rw [hjl] at hen
            have HT2 := Lib.hid (And.intro HS.out.1 (And.intro hen HS.out.2.2))
            clear hjl hen HS
            obtain ⟨tb, htb⟩ : ∃ tb, tb = t := ⟨_, rfl⟩
            rw [← htb] at HT2
            clear htb
            go_wp2_with fail
            go_loopw [85] (fun i wr => ∃ (j : Nat) (t : T), j ≤ l.length ∧ i = .int .i64 (j : Int) ∧ Hid (Duo p1 wr p1 ta p2 t ∧ t.ents = doN (doN [] (gB m) m.length) (gC l k) j ∧ Below w.heap.size w wr)) (fun i _ => l.length - (intOf i).toNat)
            case atStart => exact ⟨0, tb, Nat.zero_le _, rfl, HT2.out.1, HT2.out.2.1, HT2.out.2.2⟩
            case round =>
              obtain ⟨j, t, hj, rfl, HS⟩ := hrel
              by_cases hlt : j < l.length
              · have hrl : (j + k) % l.length < l.length := Nat.mod_lt _ hn3
                obtain ⟨b, o, cap, he, hix, hc⟩ := (HL.out.1.on HS.out.2.2).at hrl
                obtain ⟨hg1, -, hg2⟩ := Value.slice.inj he
                subst hg1
                subst hg2
                have hstep := gC_step hrl (doN (doN [] (gB m) m.length) (gC l k) j)
                have hsz := HL.out.2.2.2 _ (List.getElem_mem hrl)
                have HI := Lib.hid (fun (z : World) (hz : Below w.heap.size w z) => idx_any (HL.out.1.on hz) (by omega) l[(j + k) % l.length])
                have hmod : ((j : Int) + (k : Int)).tmod (l.length : Int) = (((j + k) % l.length : Nat) : Int) := rfl
                have hw1 : IntKind.i64.wrap ((j : Int) + (k : Int)) = (j : Int) + (k : Int) := by rw [IntKind.wrap_i64]; omega
                have hnz : ¬ (l.length : Int) = 0 := by omega
                obtain ⟨s, hs⟩ : ∃ s, s = l[(j + k) % l.length] := ⟨_, rfl⟩
                obtain ⟨r, hr⟩ : ∃ r, r = (j + k) % l.length := ⟨_, rfl⟩
                rw [← hs] at hc hstep hsz HI
                rw [← hr] at hc hix hmod hrl
                have HNx := Lib.hid hstep
                have HIS := Lib.hid HI.out
                obtain ⟨ix, hix2⟩ : ∃ ix, ix = Lib.idxOfS l s := ⟨_, rfl⟩
                rw [← hix2] at HI HNx
                have hP := put_duoB HS.out.1 (by have := HS.out.2.2.size; have := HB2.out; omega) s ix hsz (by rw [HS.out.2.1]; have := lenC l m k m.length j; omega)
                have HP := Lib.hid hP
                clear hP hstep hs hr hix2 hsz HIS
                go_wp2_with fail
                refine (HI.out _ HS.out.2.2).mono ?_
                rintro e _ ⟨rfl, hx⟩
                rw [hx]
                clear hx
                go_wp2_with fail
                refine HP.out.mono ?_
                rintro e y ⟨rfl, t', h1, h2, h3⟩
                have HN := Lib.hid (And.intro h1 (And.intro (show t'.ents = doN (doN [] (gB m) m.length) (gC l k) (j + 1) by rw [h2, doN, HNx.out, HS.out.2.1]) (HS.out.2.2.trans (by rw [← HB2.out]; exact h3))))
                clear h1 h2 h3
                go_wp2_with fail
                go_roundw
                case rel => exact ⟨j + 1, t', by omega, by go_num, HN⟩
                case measure => simp [intOf]; omega
              · have hjl : j = l.length := by omega
                have hen := HS.out.2.1
                rw [hjl] at hen
                have HT3 := Lib.hid (And.intro HS.out.1 (And.intro hen HS.out.2.2))
                clear hjl hen HS
                obtain ⟨tc, htc⟩ : ∃ tc, tc = t := ⟨_, rfl⟩
                rw [← htc] at HT3
                clear htc
                go_wp2_with fail
                go_loopw [106] (fun i wr => ∃ (j : Nat) (t : T), j ≤ m.length ∧ i = .int .i64 (j : Int) ∧ Hid (Duo p1 wr p1 ta p2 t ∧ t.ents = doN (doN (doN [] (gB m) m.length) (gC l k) l.length) (gD l m) j ∧ Below w.heap.size w wr)) (fun i _ => m.length - (intOf i).toNat)
                case atStart => exact ⟨0, tc, Nat.zero_le _, rfl, HT3.out.1, HT3.out.2.1, HT3.out.2.2⟩
                case round =>
                  obtain ⟨j, t, hj, rfl, HS⟩ := hrel
                  by_cases hlt : j < m.length
                  · obtain ⟨b, o, cap, he, hix, hc⟩ := (HL.out.2.1.on HS.out.2.2).at hlt
                    obtain ⟨hg1, -, hg2⟩ := Value.slice.inj he
                    subst hg1
                    subst hg2
                    have hstep := gD_step (keys := l) hlt (doN (doN (doN [] (gB m) m.length) (gC l k) l.length) (gD l m) j)
                    have HI := Lib.hid (fun (z : World) (hz : Below w.heap.size w z) => contains_any (HL.out.1.on hz) (by omega) m[j])
                    obtain ⟨s, hs⟩ : ∃ s, s = m[j] := ⟨_, rfl⟩
                    rw [← hs] at hc hstep HI
                    have HNx := Lib.hid hstep
                    clear hstep hs
                    obtain ⟨cb, hcb⟩ : ∃ cb, cb = Lib.containsS l s := ⟨_, rfl⟩
                    rw [← hcb] at HI HNx
                    clear hcb
                    cases cb with
                    | true =>
                      rw [if_pos rfl] at HNx
                      have HN := Lib.hid (And.intro HS.out.1 (And.intro (show t.ents = doN (doN (doN [] (gB m) m.length) (gC l k) l.length) (gD l m) (j + 1) by rw [doN, HNx.out, HS.out.2.1]) HS.out.2.2))
                      go_wp2_with fail
                      refine (HI.out _ HS.out.2.2).mono ?_
                      rintro e _ ⟨rfl, hx⟩
                      rw [hx]
                      clear hx
                      go_wp2_with fail
                      go_roundw
                      case rel => exact ⟨j + 1, t, by omega, by go_num, HN⟩
                      case measure => simp [intOf]; omega
                    | false =>
                      rw [if_neg (by decide)] at HNx
                      have hP := drop_duoB HS.out.1 (by have := HS.out.2.2.size; have := HB2.out; omega) s
                      have HP := Lib.hid hP
                      clear hP
                      go_wp2_with fail
                      refine (HI.out _ HS.out.2.2).mono ?_
                      rintro e _ ⟨rfl, hx⟩
                      rw [hx]
                      clear hx
                      go_wp2_with fail
                      refine HP.out.mono ?_
                      rintro e y ⟨⟨z, rfl⟩, t', h1, h2, h3⟩
                      have HN := Lib.hid (And.intro h1 (And.intro (show t'.ents = doN (doN (doN [] (gB m) m.length) (gC l k) l.length) (gD l m) (j + 1) by rw [h2, doN, HNx.out, HS.out.2.1]) (HS.out.2.2.trans (by rw [← HB2.out]; exact h3))))
                      clear h1 h2 h3
                      go_wp2_with fail
                      go_roundw
                      case rel => exact ⟨j + 1, t', by omega, by go_num, HN⟩
                      case measure => simp [intOf]; omega
                  · have hjl : j = m.length := by omega
                    have hen := HS.out.2.1
                    rw [hjl, forms_one l m hk, ← HT1.out.2.1] at hen
                    have hle : ta.ents.length ≤ 60 := by rw [HT1.out.2.1]; have := lenA l l.length; omega
                    have HT4 := Lib.hid (And.intro HS.out.1 (And.intro hen (And.intro HS.out.2.2 hle)))
                    clear hjl hen HS hle
                    obtain ⟨b, o, cap, he, hix, hc⟩ := (HL.out.1.on HT4.out.2.2.1).at hk
                    obtain ⟨hg1, -, hg2⟩ := Value.slice.inj he
                    subst hg1
                    subst hg2
                    obtain ⟨key, hkey⟩ : ∃ s, s = l[k] := ⟨_, rfl⟩
                    rw [← hkey] at hc
                    obtain ⟨X, hX⟩ : ∃ X, X = wr := ⟨_, rfl⟩
                    rw [← hX] at HT4 hc ⊢
                    clear hX hkey
                    have HKc := Lib.hid (show ∀ z, Below X.heap.size X z → z.cell? ⟨b, o + k, none⟩ = some (.string key) from fun z hz => (hz.cell (World.block_lt_of_cell? X _ hc)).trans hc)
                    obtain ⟨n, hn⟩ : ∃ n, n = ta.ents.length := ⟨_, rfl⟩
                    have HLa := Lib.hid (show ∀ z, Below X.heap.size X z → Calls Try.prog 16 #[.pointer (some ⟨p1, 0, none⟩)] z fun e y => e = .returned (.int .i64 (n : Nat)) ∧ y = z from fun z hz => by rw [hn]; exact len_row (HT4.out.1.a.on hz).h)
                    have HLb := Lib.hid (show ∀ z, Below X.heap.size X z → Calls Try.prog 16 #[.pointer (some ⟨p2, 0, none⟩)] z fun e y => e = .returned (.int .i64 (n : Nat)) ∧ y = z from fun z hz => by rw [hn, ← HT4.out.2.1]; exact len_row (HT4.out.1.b.on hz).h)
                    have HRa := Lib.hid (show ∀ z, Below X.heap.size X z → Calls Try.prog 17 #[.pointer (some ⟨p1, 0, none⟩), .string key] z fun e y => e = .returned (.int .i64 (rank ta.ents key : Nat)) ∧ y = z from fun z hz => rank_row (HT4.out.1.a.on hz).h key)
                    have HRb := Lib.hid (show ∀ z, Below X.heap.size X z → Calls Try.prog 17 #[.pointer (some ⟨p2, 0, none⟩), .string key] z fun e y => e = .returned (.int .i64 (rank ta.ents key : Nat)) ∧ y = z from fun z hz => by rw [← HT4.out.2.1]; exact rank_row (HT4.out.1.b.on hz).h key)
                    have HFa := Lib.hid (show ∀ z, Below X.heap.size X z → ∀ q c, Calls Try.prog 15 #[.pointer (some ⟨p1, 0, none⟩), .string q, .int .i64 c] z fun e y => ∃ v, e = .returned v ∧ Ro tEn y v ((upon ta.ents q).take c.toNat) ∧ Below z.heap.size z y from fun z hz q c => (from_row (HT4.out.1.a.on hz).h q c).mono fun e y ⟨v, h1, h2, h3⟩ => ⟨v, h1, own_base h2 (Nat.zero_le _), h3⟩)
                    have HFb := Lib.hid (show ∀ z, Below X.heap.size X z → ∀ q c, Calls Try.prog 15 #[.pointer (some ⟨p2, 0, none⟩), .string q, .int .i64 c] z fun e y => ∃ v, e = .returned v ∧ Ro tEn y v ((upon ta.ents q).take c.toNat) ∧ Below z.heap.size z y from fun z hz q c => by
                      rw [← HT4.out.2.1]
                      exact (from_row (HT4.out.1.b.on hz).h q c).mono fun e y ⟨v, h1, h2, h3⟩ => ⟨v, h1, own_base h2 (Nat.zero_le _), h3⟩)
                    have HEq := Lib.hid (show ∀ z q c va vb, Ro tEn z va ((upon ta.ents q).take c) → Ro tEn z vb ((upon ta.ents q).take c) → Calls Try.prog 24 #[va, vb] z fun e x => e = .returned (.bool true) ∧ Below z.heap.size z x from fun z q c va vb h1 h2 => equal_any h1 h2 (by
                      have := HT4.out.2.2.2
                      have h3 : (upon ta.ents q).length ≤ ta.ents.length := List.length_filter_le ..
                      rw [List.length_take]
                      omega))
                    have HW := Lib.hid HT4.out.2.2.1
                    generalize rank ta.ents key = rk at *
                    clear hn hc HT1 HT2 HT3 HT4 HL HA HB2
                    go_wp2_with fail
                    refine Order.beginE (fun z => Below X.heap.size X z) [] (by kernel_rfl) ?_
                    refine Order.readsE_any (idx := [0, 2]) (by kernel_rfl) (Below.refl _ _).drew (fun _ _ _ _ _ h => Order.noPanic_put h) 41 _ _ (by decide +kernel) ?_
                    simp only [Order.pick, List.getElem?_toArray, List.getElem?_cons_zero, List.getElem?_cons_succ]
                    repeat (first
                      | (refine Order.reads_off (by rfl) ?_
                         simp only [Act.put, List.setIfInBounds_toArray, List.set_cons_zero, List.set_cons_succ])
                      | (apply Order.reads_on
                         · rfl
                         · intro x hx
                           first
                             | (go_simp; rfl)
                             | (fail
                                go_simp; rfl)
                         simp only [Act.put, List.setIfInBounds_toArray, List.set_cons_zero, List.set_cons_succ]))
                    refine Order.reads_end ?_
                    apply Order.actE (i := 1)
                    · rfl
                    · decide +kernel
                    · rfl
                    unfold Oper.wp
                    go_simp
                    have hd : Below X.heap.size X X.drew := (Below.refl _ _).drew
                    generalize X.drew = D at *
                    refine (HLa.out D hd).mono ?_
                    rintro e _ ⟨rfl, hx⟩
                    rw [hx]
                    clear hx
                    refine ⟨hd, ?_⟩
                    apply Order.actE (i := 3)
                    · rfl
                    · decide +kernel
                    · rfl
                    unfold Oper.wp
                    go_simp
                    refine (HLb.out D hd).mono ?_
                    rintro e _ ⟨rfl, hx⟩
                    rw [hx]
                    clear hx
                    refine ⟨hd, ?_⟩
                    refine Order.readsE_any (idx := [4, 5, 6, 8]) (by kernel_rfl) hd (fun _ _ _ _ _ h => Order.noPanic_put h) 35 _ _ (by decide +kernel) ?_
                    simp only [Order.pick, List.getElem?_toArray, List.getElem?_cons_zero, List.getElem?_cons_succ]
                    repeat (first
                      | (refine Order.reads_off (by rfl) ?_
                         simp only [Act.put, List.setIfInBounds_toArray, List.set_cons_zero, List.set_cons_succ])
                      | (apply Order.reads_on
                         · rfl
                         · intro x hx
                           first
                             | (go_simp; rfl)
                             | (fail
                                go_simp; rfl)
                         simp only [Act.put, List.setIfInBounds_toArray, List.set_cons_zero, List.set_cons_succ]))
                    refine Order.reads_end ?_
                    apply Order.actE (i := 7)
                    · rfl
                    · decide +kernel
                    · rfl
                    unfold Oper.wp
                    go_simp
                    refine (HFa.out D hd _ _).mono ?_
                    rintro e y1 ⟨v1, rfl, h1, hb1⟩
                    have hy1 := hd.trans (hb1.mono hd.size)
                    refine ⟨hy1, ?_⟩
                    apply Order.actE (i := 9)
                    · rfl
                    · decide +kernel
                    · rfl
                    unfold Oper.wp
                    go_simp
                    refine (HFb.out y1 hy1 _ _).mono ?_
                    rintro e y2 ⟨v2, rfl, h2, hb2⟩
                    have hy2 := hy1.trans (hb2.mono hy1.size)
                    refine ⟨hy2, ?_⟩
                    apply Order.actE (i := 10)
                    · rfl
                    · decide +kernel
                    · rfl
                    unfold Oper.wp
                    go_simp
                    refine (HEq.out y2 _ _ _ _ (h1.on hb2) h2).mono ?_
                    rintro e y3 ⟨rfl, hb3⟩
                    have hy3 := hy2.trans (hb3.mono hy2.size)
                    refine ⟨hy3, ?_⟩
                    clear h1 h2 hb1 hb2 hb3 hy1 hy2
                    refine Order.readsE_any (idx := [11, 12, 13, 14, 15, 16, 17, 19, 20, 21, 22, 23]) (by kernel_rfl) hy3 (fun _ _ _ _ _ h => Order.noPanic_put h) 20 _ _ (by decide +kernel) ?_
                    simp only [Order.pick, List.getElem?_toArray, List.getElem?_cons_zero, List.getElem?_cons_succ]
                    repeat (first
                      | (refine Order.reads_off (by rfl) ?_
                         simp only [Act.put, List.setIfInBounds_toArray, List.set_cons_zero, List.set_cons_succ])
                      | (apply Order.reads_on
                         · rfl
                         · intro x hx
                           first
                             | (have q0 := HKc.out x hx
                                go_simp; rfl)
                         simp only [Act.put, List.setIfInBounds_toArray, List.set_cons_zero, List.set_cons_succ]))
                    refine Order.reads_end ?_
                    apply Order.actE (i := 18)
                    · rfl
                    · decide +kernel
                    · rfl
                    unfold Oper.wp
                    go_simp
                    refine (HFa.out y3 hy3 _ _).mono ?_
                    rintro e y4 ⟨v4, rfl, h1, hb1⟩
                    have hy4 := hy3.trans (hb1.mono hy3.size)
                    refine ⟨hy4, ?_⟩
                    apply Order.actE (i := 24)
                    · rfl
                    · decide +kernel
                    · rfl
                    unfold Oper.wp
                    go_simp
                    refine (HFb.out y4 hy4 _ _).mono ?_
                    rintro e y5 ⟨v5, rfl, h2, hb2⟩
                    have hy5 := hy4.trans (hb2.mono hy4.size)
                    refine ⟨hy5, ?_⟩
                    apply Order.actE (i := 25)
                    · rfl
                    · decide +kernel
                    · rfl
                    unfold Oper.wp
                    go_simp
                    refine (HEq.out y5 _ _ _ _ (h1.on hb2) h2).mono ?_
                    rintro e y6 ⟨rfl, hb3⟩
                    have hy6 := hy5.trans (hb3.mono hy5.size)
                    refine ⟨hy6, ?_⟩
                    clear h1 h2 hb1 hb2 hb3 hy4 hy5
                    refine Order.readsE_any (idx := [26, 27, 28, 29, 30, 31, 32, 34, 35, 36, 37, 38]) (by kernel_rfl) hy6 (fun _ _ _ _ _ h => Order.noPanic_put h) 5 _ _ (by decide +kernel) ?_
                    simp only [Order.pick, List.getElem?_toArray, List.getElem?_cons_zero, List.getElem?_cons_succ]
                    repeat (first
                      | (refine Order.reads_off (by rfl) ?_
                         simp only [Act.put, List.setIfInBounds_toArray, List.set_cons_zero, List.set_cons_succ])
                      | (apply Order.reads_on
                         · rfl
                         · intro x hx
                           first
                             | (have q0 := HKc.out x hx
                                go_simp; rfl)
                         simp only [Act.put, List.setIfInBounds_toArray, List.set_cons_zero, List.set_cons_succ]))
                    refine Order.reads_end ?_
                    apply Order.actE (i := 33)
                    · rfl
                    · decide +kernel
                    · rfl
                    unfold Oper.wp
                    go_simp
                    refine (HRa.out y6 hy6).mono ?_
                    rintro e _ ⟨rfl, hx⟩
                    rw [hx]
                    clear hx
                    refine ⟨hy6, ?_⟩
                    apply Order.actE (i := 39)
                    · rfl
                    · decide +kernel
                    · rfl
                    unfold Oper.wp
                    go_simp
                    refine (HRb.out y6 hy6).mono ?_
                    rintro e _ ⟨rfl, hx⟩
                    rw [hx]
                    clear hx
                    refine ⟨hy6, ?_⟩
                    refine Order.readsE_any (idx := [40, 41, 42]) (by kernel_rfl) hy6 (fun _ _ _ _ _ h => Order.noPanic_put h) 0 _ _ (by decide +kernel) ?_
                    simp only [Order.pick, List.getElem?_toArray, List.getElem?_cons_zero, List.getElem?_cons_succ]
                    repeat (first
                      | (refine Order.reads_off (by rfl) ?_
                         simp only [Act.put, List.setIfInBounds_toArray, List.set_cons_zero, List.set_cons_succ])
                      | (apply Order.reads_on
                         · rfl
                         · intro x hx
                           first
                             | (go_simp; rfl)
                             | (fail
                                go_simp; rfl)
                         simp only [Act.put, List.setIfInBounds_toArray, List.set_cons_zero, List.set_cons_succ]))
                    refine Order.reads_end ?_
                    refine Order.doneE (by decide +kernel) ?_ _
                    refine NoPanic.normal ?_
                    go_wp2_with fail
                    go_ret
                    exact ⟨rfl, HW.out.trans (hy6.mono HW.out.size)⟩
  · rcases (show 60 < l.length ∨ (l.length ≤ 60 ∧ 60 < m.length) ∨ (l.length ≤ 60 ∧ m.length ≤ 60 ∧ l.length = 0) by omega) with h | ⟨h, h'⟩ | ⟨h, h', h''⟩
    all_goals
      clear hn
      try (have e0 : ((l.length : Int) == 0) = true := by rw [beq_iff_eq]; omega)
      try clear h''
      go_enter Try.func4, Try.ntmps4
      go_wp2_with fail
      refine (new_al w).mono ?_
      rintro e x0 ⟨rfl, -, hb0⟩
      have HB0 := Lib.hid hb0
      clear hb0
      go_wp2_with fail
      refine (new_al x0).mono ?_
      rintro e x1 ⟨rfl, -, hb1⟩
      have HB1 := Lib.hid (HB0.out.trans (hb1.mono HB0.out.size))
      clear hb1
      go_wp2_with fail
      refine (HA.out x1).mono ?_
      rintro e x2 ⟨rfl, hb2⟩
      have HB2 := Lib.hid (HB1.out.trans (hb2.mono HB1.out.size))
      clear hb2
      go_wp2_with fail
      refine (HA.out x2).mono ?_
      rintro e x3 ⟨rfl, hb3⟩
      have HB3 := Lib.hid (HB2.out.trans (hb3.mono HB2.out.size))
      clear hb3
      go_wp2_with fail
      go_ret
      exact ⟨rfl, HB3.out⟩
end Hg.LawH15F
end Go.Proofs.Ytldacdpejncbnaa
