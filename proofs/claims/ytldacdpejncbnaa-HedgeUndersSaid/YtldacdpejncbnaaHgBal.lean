/-
  Layer 15: a tree whose sides are brought into balance.
-/
import Derived.Test.YtldacdpejncbnaaHgRot
namespace Go.Proofs.Ytldacdpejncbnaa
open Go.RowKit
namespace Hg
open Knot (Turns NewRow)

theorem Nd.drewN {w : World} {b : Nat} {k : ByteArray} {a c : Int} {l r : Option Addr} (h : Nd w b k a c l r) (n : Nat) : Nd (w.drewN n) b k a c l r := h.turn (F := fun _ => False) (Turns.of_below (below_drewN (Below.refl _ _) n)) id
theorem turns_drewN (F : Nat → Prop) (w : World) (n : Nat) : Turns F w (w.drewN n) := Turns.of_below (below_drewN (Below.refl _ _) n)
theorem mem_ne {A : List Nat} {b : Nat} (h : b ∉ A) : ∀ q ∈ A, q ≠ b := fun _ hq e => h (e ▸ hq)
theorem apart3 {b c : Nat} {A B C : List Nat} (h : (b :: ((c :: (A ++ B)) ++ C)).Nodup) : b ≠ c ∧ (∀ q ∈ A, ¬ Two b c q) ∧ (∀ q ∈ B, ¬ Two b c q) ∧ (∀ q ∈ C, ¬ Two b c q) := by
  simp only [List.nodup_cons, List.cons_append, List.mem_cons, List.mem_append, not_or] at h
  obtain ⟨⟨h1, ⟨h2, h3⟩, h4⟩, ⟨⟨h5, h6⟩, h7⟩, -⟩ := h
  refine ⟨h1, ?_, ?_, ?_⟩ <;> (rintro q hq (rfl | rfl) <;> contradiction)
theorem apart4 {b c d : Nat} {A B C D : List Nat} (h : (b :: ((c :: (A ++ d :: (B ++ C))) ++ D)).Nodup) : b ≠ c ∧ b ≠ d ∧ c ≠ d ∧ (∀ q ∈ A, q ≠ b ∧ q ≠ c ∧ q ≠ d) ∧ (∀ q ∈ B, q ≠ b ∧ q ≠ c ∧ q ≠ d) ∧ (∀ q ∈ C, q ≠ b ∧ q ≠ c ∧ q ≠ d) ∧ (∀ q ∈ D, q ≠ b ∧ q ≠ c ∧ q ≠ d) := by
  simp only [List.nodup_cons, List.cons_append, List.mem_cons, List.mem_append, not_or, List.nodup_append, ne_eq] at h
  obtain ⟨⟨h1, ⟨h2, h3, h4, h5⟩, h6⟩, ⟨⟨h7, h8, h9, h10⟩, h11⟩, ⟨-, ⟨⟨h12, h13⟩, -⟩, h14⟩, -, h15⟩ := h
  refine ⟨h1, h3, h8, fun q hq => ⟨mem_ne h2 q hq, mem_ne h7 q hq, h14 q hq d (.inl rfl)⟩, fun q hq => ⟨mem_ne h4 q hq, mem_ne h9 q hq, mem_ne h12 q hq⟩, fun q hq => ⟨mem_ne h5 q hq, mem_ne h10 q hq, mem_ne h13 q hq⟩, fun q hq => ⟨mem_ne h6 q hq, mem_ne h11 q hq, fun e => h15 d (.inr (.inl rfl)) q hq e.symm⟩⟩
theorem apart3r {b c : Nat} {A B C : List Nat} (h : (b :: (C ++ (c :: (B ++ A)))).Nodup) : b ≠ c ∧ (∀ q ∈ A, ¬ Two b c q) ∧ (∀ q ∈ B, ¬ Two b c q) ∧ (∀ q ∈ C, ¬ Two b c q) :=
  apart3 ((List.Perm.cons b (List.perm_append_comm.trans (List.Perm.append_right C (List.Perm.cons c List.perm_append_comm)))).nodup_iff.1 h)
theorem apart4r {b c d : Nat} {A B C D : List Nat} (h : (b :: (D ++ (c :: ((d :: (C ++ B)) ++ A)))).Nodup) : b ≠ c ∧ b ≠ d ∧ c ≠ d ∧ (∀ q ∈ A, q ≠ b ∧ q ≠ c ∧ q ≠ d) ∧ (∀ q ∈ B, q ≠ b ∧ q ≠ c ∧ q ≠ d) ∧ (∀ q ∈ C, q ≠ b ∧ q ≠ c ∧ q ≠ d) ∧ (∀ q ∈ D, q ≠ b ∧ q ≠ c ∧ q ≠ d) :=
  apart4 ((List.Perm.cons b (List.perm_append_comm.trans (List.Perm.append_right D (List.Perm.cons c (List.perm_append_comm.trans (List.Perm.append_left A (List.Perm.cons d List.perm_append_comm))))))).nodup_iff.1 h)
/-- A node that may have another count, with its two sides. -/
structure Top (w : World) (b : Nat) (l : T) (k : ByteArray) (a : Int) (r : T) : Prop where
  nd : ∃ c, Nd w b k a c (loc l) (loc r)
  left : IsT w l
  right : IsT w r
  apart : (b :: (l.blks ++ r.blks)).Nodup
  few : l.size + r.size ≤ 80000
/-- What balanced is to do. -/
def Balances (w : World) (b : Nat) (l : T) (_k : ByteArray) (_a : Int) (r t : T) : Prop :=
  Calls Try.prog 37 #[.pointer (some ⟨b, 0, none⟩)] w fun e x => e = .returned (.pointer (loc t)) ∧ Turns (fun q => q ∈ b :: (l.blks ++ r.blks)) w x ∧ IsT x t

set_option maxHeartbeats 4000000 in
set_option maxRecDepth 100000 in
theorem bal_even {b : Nat} {l r : T} {k : ByteArray} {a : Int} (w : World) (h : Top w b l k a r) (h1 : ¬ 3 * (r.size + 1) < l.size + 1) (h2 : ¬ 3 * (l.size + 1) < r.size + 1) : Balances w b l k a r (.bin b l k a r) := by
  obtain ⟨⟨c, hn⟩, hl, hr, ha, hs⟩ := h
  obtain ⟨c0, c1, c2, c3, c4⟩ := hn.cells
  have H := Lib.hid (And.intro hn (And.intro hl (And.intro hr ha)))
  clear hn hl hr ha
  have hs1 := hs
  obtain ⟨nl, hnl⟩ : ∃ n, n = l.size := ⟨_, rfl⟩
  obtain ⟨nr, hnr⟩ : ∃ n, n = r.size := ⟨_, rfl⟩
  rw [← hnl, ← hnr] at h1 h2 hs1
  have HL := Lib.hid (show ∀ w, IsT w l → Calls _ _ _ w fun e x => e = .returned (.int .i64 ((nl : Int) + 1)) ∧ x = w from fun w h => by rw [hnl]; exact weight_any w h (by omega))
  have HR := Lib.hid (show ∀ w, IsT w r → Calls _ _ _ w fun e x => e = .returned (.int .i64 ((nr : Int) + 1)) ∧ x = w from fun w h => by rw [hnr]; exact weight_any w h (by omega))
  have HS := Lib.hid hs
  clear hnl hnr hs
  unfold Balances
  go_enter Try.func37, Try.ntmps37
  go_wp2_with fail
  go_quiet (fail)
  have HX := Lib.hid (And.intro (H.out.1.drewN nq) (And.intro (H.out.2.1.drewN nq) (And.intro (H.out.2.2.1.drewN nq) (turns_drewN (fun q => q ∈ b :: (l.blks ++ r.blks)) w nq))))
  generalize w.drewN nq = X at *
  clear c0 c1 c2 c3 c4
  go_wp2_with fail
  refine (HL.out X HX.out.2.1).mono ?_
  rintro e x ⟨rfl, rfl⟩
  go_wp2_with fail
  refine (HR.out _ HX.out.2.2.1).mono ?_
  rintro e x ⟨rfl, rfl⟩
  go_wp2_with fail
  refine (HR.out _ HX.out.2.2.1).mono ?_
  rintro e x ⟨rfl, rfl⟩
  go_wp2_with fail
  refine (HL.out _ HX.out.2.1).mono ?_
  rintro e x ⟨rfl, rfl⟩
  go_wp2_with fail
  refine (recount_any _ HX.out.1 HX.out.2.1 HX.out.2.2.1 (by have := HS.out; omega)).mono ?_
  rintro e y ⟨rfl, ht, hn⟩
  go_wp2_with fail
  go_ret
  have hb := (List.nodup_cons.1 H.out.2.2.2).1
  rw [List.mem_append, not_or] at hb
  exact ⟨rfl, HX.out.2.2.2.trans ht fun q _ e => by rw [e]; exact List.mem_cons_self, hn, HX.out.2.1.turn ht (mem_ne hb.1), HX.out.2.2.1.turn ht (mem_ne hb.2)⟩

set_option maxHeartbeats 4000000 in
set_option maxRecDepth 100000 in
theorem bal_left2 {b cb : Nat} {A B O : T} {k ck : ByteArray} {a ca : Int} (w : World) (h : Top w b (T.bin cb A ck ca B) k a O) (h1 : 3 * (O.size + 1) < (A.size + 1 + B.size) + 1) (h2 : ¬ 2 * (A.size + 1) ≤ B.size + 1) : Balances w b (T.bin cb A ck ca B) k a O (T.bin cb A ck ca (T.bin b B k a O)) := by
  obtain ⟨⟨c, hn⟩, hl, hr, ha, hs⟩ := h
  obtain ⟨c0, c1, c2, c3, c4⟩ := (show Nd w b k a c (some ⟨cb, 0, none⟩) (loc O) from hn).cells
  have hsz : O.size + (A.size + 1 + B.size) ≤ 80000 := by simp only [T.size] at hs; omega
  have H := Lib.hid (And.intro hn (And.intro hl (And.intro hr ha)))
  clear hn hl hr ha hs
  have hs1 := hsz
  obtain ⟨nO, hO⟩ : ∃ n, n = O.size := ⟨_, rfl⟩
  obtain ⟨nA, hA⟩ : ∃ n, n = A.size := ⟨_, rfl⟩
  obtain ⟨nI, hI⟩ : ∃ n, n = B.size := ⟨_, rfl⟩
  obtain ⟨nV, hV⟩ : ∃ n, n = (A.size + 1 + B.size) := ⟨_, rfl⟩
  rw [← hO, ← hV] at h1 hs1
  rw [← hA, ← hI] at h2
  have hAI : nA + nI + 1 = nV := by omega
  have HV := Lib.hid (show ∀ w, IsT w (T.bin cb A ck ca B) → Calls Try.prog _ #[.pointer (some ⟨cb, 0, none⟩)] w fun e x => e = .returned (.int .i64 ((nV : Int) + 1)) ∧ x = w from fun w h => by rw [hV]; exact weight_any (t := (T.bin cb A ck ca B)) w h (by simp only [T.size]; omega))
  have HO := Lib.hid (show ∀ w, IsT w O → Calls _ _ _ w fun e x => e = .returned (.int .i64 ((nO : Int) + 1)) ∧ x = w from fun w h => by rw [hO]; exact weight_any w h (by omega))
  have HA := Lib.hid (show ∀ w, IsT w A → Calls _ _ _ w fun e x => e = .returned (.int .i64 ((nA : Int) + 1)) ∧ x = w from fun w h => by rw [hA]; exact weight_any w h (by omega))
  have HI := Lib.hid (show ∀ w, IsT w B → Calls Try.prog _ #[.pointer (loc B)] w fun e x => e = .returned (.int .i64 ((nI : Int) + 1)) ∧ x = w from fun w h => by rw [hI]; exact weight_any (t := B) w h (by omega))
  have HS := Lib.hid hsz
  clear hO hA hI hV hsz
  unfold Balances
  go_enter Try.func37, Try.ntmps37
  go_wp2_with fail
  go_quiet (fail)
  have HX := Lib.hid (And.intro (H.out.1.drewN nq) (And.intro (H.out.2.1.drewN nq) (And.intro (H.out.2.2.1.drewN nq) (turns_drewN (fun q => q ∈ b :: ((T.bin cb A ck ca B).blks ++ O.blks)) w nq))))
  generalize w.drewN nq = X at *
  clear c0 c1 c2 c3 c4
  go_wp2_with fail
  refine (HV.out X HX.out.2.1).mono ?_
  rintro e x ⟨rfl, rfl⟩
  go_wp2_with fail
  refine (HO.out _ HX.out.2.2.1).mono ?_
  rintro e x ⟨rfl, rfl⟩
  go_wp2_with fail
  obtain ⟨d0, d1, d2, d3, d4⟩ := (show Nd _ cb ck ca _ (loc A) (loc B) from HX.out.2.1.1).cells
  go_quiet (first | (go_at_call_of 45 (loc A); exact Calls.quiet_of_same (HA.out _ (HX.out.2.1.2.1.drewN _))) | (go_at_call 45; exact Calls.quiet_of_same (HI.out _ (HX.out.2.1.2.2.drewN _))))
  have HY := Lib.hid (And.intro (HX.out.1.drewN nq) (And.intro (HX.out.2.1.drewN nq) (And.intro (HX.out.2.2.1.drewN nq) (HX.out.2.2.2.trans (turns_drewN (fun q => q ∈ b :: ((T.bin cb A ck ca B).blks ++ O.blks)) _ nq) fun _ _ h => h))))
  generalize x.drewN nq = Y at *
  clear d0 d1 d2 d3 d4 HX
  obtain ⟨p1, p2, p3, p4⟩ := apart3 H.out.2.2.2
  obtain ⟨hn, hl, hr, ht0⟩ := HY.out
  have HT := Lib.hid (turnedRight_any (b2 := cb) (l := O) (m := B) (r := A) Y hn hl.1 hr hl.2.2 hl.2.1 p1 p4 p3 p2 (by have := HS.out; omega))
  have HZ := Lib.hid (And.intro ht0 hn)
  clear hn hl hr ht0 p1 p2 p3 p4 HY
  go_wp2_with fail
  refine HT.out.mono ?_
  rintro e y ⟨rfl, ht, hy⟩
  go_wp2_with fail
  go_ret
  refine ⟨rfl, HZ.out.1.trans ht fun q _ e => ?_, hy⟩
  rcases e with rfl | rfl <;> simp [T.blks]

set_option maxHeartbeats 4000000 in
set_option maxRecDepth 100000 in
theorem bal_right2 {b cb : Nat} {A B O : T} {k ck : ByteArray} {a ca : Int} (w : World) (h : Top w b O k a (T.bin cb B ck ca A)) (h1 : 3 * (O.size + 1) < (B.size + 1 + A.size) + 1) (h2 : ¬ 2 * (A.size + 1) ≤ B.size + 1) : Balances w b O k a (T.bin cb B ck ca A) (T.bin cb (T.bin b O k a B) ck ca A) := by
  obtain ⟨⟨c, hn⟩, hl, hr, ha, hs⟩ := h
  obtain ⟨c0, c1, c2, c3, c4⟩ := (show Nd w b k a c (loc O) (some ⟨cb, 0, none⟩) from hn).cells
  have hsz : O.size + (B.size + 1 + A.size) ≤ 80000 := by simp only [T.size] at hs; omega
  have H := Lib.hid (And.intro hn (And.intro hl (And.intro hr ha)))
  clear hn hl hr ha hs
  have hs1 := hsz
  obtain ⟨nO, hO⟩ : ∃ n, n = O.size := ⟨_, rfl⟩
  obtain ⟨nA, hA⟩ : ∃ n, n = A.size := ⟨_, rfl⟩
  obtain ⟨nI, hI⟩ : ∃ n, n = B.size := ⟨_, rfl⟩
  obtain ⟨nV, hV⟩ : ∃ n, n = (B.size + 1 + A.size) := ⟨_, rfl⟩
  rw [← hO, ← hV] at h1 hs1
  rw [← hA, ← hI] at h2
  have hAI : nA + nI + 1 = nV := by omega
  have HV := Lib.hid (show ∀ w, IsT w (T.bin cb B ck ca A) → Calls Try.prog _ #[.pointer (some ⟨cb, 0, none⟩)] w fun e x => e = .returned (.int .i64 ((nV : Int) + 1)) ∧ x = w from fun w h => by rw [hV]; exact weight_any (t := (T.bin cb B ck ca A)) w h (by simp only [T.size]; omega))
  have HO := Lib.hid (show ∀ w, IsT w O → Calls _ _ _ w fun e x => e = .returned (.int .i64 ((nO : Int) + 1)) ∧ x = w from fun w h => by rw [hO]; exact weight_any w h (by omega))
  have HA := Lib.hid (show ∀ w, IsT w A → Calls _ _ _ w fun e x => e = .returned (.int .i64 ((nA : Int) + 1)) ∧ x = w from fun w h => by rw [hA]; exact weight_any w h (by omega))
  have HI := Lib.hid (show ∀ w, IsT w B → Calls Try.prog _ #[.pointer (loc B)] w fun e x => e = .returned (.int .i64 ((nI : Int) + 1)) ∧ x = w from fun w h => by rw [hI]; exact weight_any (t := B) w h (by omega))
  have HS := Lib.hid hsz
  clear hO hA hI hV hsz
  unfold Balances
  go_enter Try.func37, Try.ntmps37
  go_wp2_with fail
  go_quiet (fail)
  have HX := Lib.hid (And.intro (H.out.1.drewN nq) (And.intro (H.out.2.1.drewN nq) (And.intro (H.out.2.2.1.drewN nq) (turns_drewN (fun q => q ∈ b :: (O.blks ++ (T.bin cb B ck ca A).blks)) w nq))))
  generalize w.drewN nq = X at *
  clear c0 c1 c2 c3 c4
  go_wp2_with fail
  refine (HO.out X HX.out.2.1).mono ?_
  rintro e x ⟨rfl, rfl⟩
  go_wp2_with fail
  refine (HV.out _ HX.out.2.2.1).mono ?_
  rintro e x ⟨rfl, rfl⟩
  go_wp2_with fail
  refine (HV.out _ HX.out.2.2.1).mono ?_
  rintro e x ⟨rfl, rfl⟩
  go_wp2_with fail
  refine (HO.out _ HX.out.2.1).mono ?_
  rintro e x ⟨rfl, rfl⟩
  go_wp2_with fail
  obtain ⟨d0, d1, d2, d3, d4⟩ := (show Nd _ cb ck ca _ (loc B) (loc A) from HX.out.2.2.1.1).cells
  go_quiet (first | (go_at_call_of 45 (loc A); exact Calls.quiet_of_same (HA.out _ (HX.out.2.2.1.2.2.drewN _))) | (go_at_call 45; exact Calls.quiet_of_same (HI.out _ (HX.out.2.2.1.2.1.drewN _))))
  have HY := Lib.hid (And.intro (HX.out.1.drewN nq) (And.intro (HX.out.2.1.drewN nq) (And.intro (HX.out.2.2.1.drewN nq) (HX.out.2.2.2.trans (turns_drewN (fun q => q ∈ b :: (O.blks ++ (T.bin cb B ck ca A).blks)) _ nq) fun _ _ h => h))))
  generalize x.drewN nq = Y at *
  clear d0 d1 d2 d3 d4 HX
  obtain ⟨p1, p2, p3, p4⟩ := apart3r H.out.2.2.2
  obtain ⟨hn, hl, hr, ht0⟩ := HY.out
  have HT := Lib.hid (turnedLeft_any (b2 := cb) (l := O) (m := B) (r := A) Y hn hr.1 hl hr.2.1 hr.2.2 p1 p4 p3 p2 (by have := HS.out; omega))
  have HZ := Lib.hid (And.intro ht0 hn)
  clear hn hl hr ht0 p1 p2 p3 p4 HY
  go_wp2_with fail
  refine HT.out.mono ?_
  rintro e y ⟨rfl, ht, hy⟩
  go_wp2_with fail
  go_ret
  refine ⟨rfl, HZ.out.1.trans ht fun q _ e => ?_, hy⟩
  rcases e with rfl | rfl <;> simp [T.blks]

set_option maxHeartbeats 4000000 in
set_option maxRecDepth 100000 in
theorem bal_left1 {b cb db : Nat} {A B C O : T} {k ck dk : ByteArray} {a ca da : Int} (w : World) (h : Top w b (T.bin cb A ck ca (T.bin db B dk da C)) k a O) (h1 : 3 * (O.size + 1) < (A.size + 1 + (B.size + 1 + C.size)) + 1) (h2 : 2 * (A.size + 1) ≤ (B.size + 1 + C.size) + 1) : Balances w b (T.bin cb A ck ca (T.bin db B dk da C)) k a O (T.bin db (T.bin cb A ck ca B) dk da (T.bin b C k a O)) := by
  obtain ⟨⟨c, hn⟩, hl, hr, ha, hs⟩ := h
  obtain ⟨c0, c1, c2, c3, c4⟩ := (show Nd w b k a c (some ⟨cb, 0, none⟩) (loc O) from hn).cells
  have hsz : O.size + (A.size + 1 + (B.size + 1 + C.size)) ≤ 80000 := by simp only [T.size] at hs; omega
  have H := Lib.hid (And.intro hn (And.intro hl (And.intro hr ha)))
  clear hn hl hr ha hs
  have hs1 := hsz
  obtain ⟨nO, hO⟩ : ∃ n, n = O.size := ⟨_, rfl⟩
  obtain ⟨nA, hA⟩ : ∃ n, n = A.size := ⟨_, rfl⟩
  obtain ⟨nI, hI⟩ : ∃ n, n = (B.size + 1 + C.size) := ⟨_, rfl⟩
  obtain ⟨nV, hV⟩ : ∃ n, n = (A.size + 1 + (B.size + 1 + C.size)) := ⟨_, rfl⟩
  rw [← hO, ← hV] at h1 hs1
  rw [← hA, ← hI] at h2
  have hAI : nA + nI + 1 = nV := by omega
  have HV := Lib.hid (show ∀ w, IsT w (T.bin cb A ck ca (T.bin db B dk da C)) → Calls Try.prog _ #[.pointer (some ⟨cb, 0, none⟩)] w fun e x => e = .returned (.int .i64 ((nV : Int) + 1)) ∧ x = w from fun w h => by rw [hV]; exact weight_any (t := (T.bin cb A ck ca (T.bin db B dk da C))) w h (by simp only [T.size]; omega))
  have HO := Lib.hid (show ∀ w, IsT w O → Calls _ _ _ w fun e x => e = .returned (.int .i64 ((nO : Int) + 1)) ∧ x = w from fun w h => by rw [hO]; exact weight_any w h (by omega))
  have HA := Lib.hid (show ∀ w, IsT w A → Calls _ _ _ w fun e x => e = .returned (.int .i64 ((nA : Int) + 1)) ∧ x = w from fun w h => by rw [hA]; exact weight_any w h (by omega))
  have HI := Lib.hid (show ∀ w, IsT w (T.bin db B dk da C) → Calls Try.prog _ #[.pointer (some ⟨db, 0, none⟩)] w fun e x => e = .returned (.int .i64 ((nI : Int) + 1)) ∧ x = w from fun w h => by rw [hI]; exact weight_any (t := (T.bin db B dk da C)) w h (by simp only [T.size]; omega))
  have HS := Lib.hid hsz
  clear hO hA hI hV hsz
  unfold Balances
  go_enter Try.func37, Try.ntmps37
  go_wp2_with fail
  go_quiet (fail)
  have HX := Lib.hid (And.intro (H.out.1.drewN nq) (And.intro (H.out.2.1.drewN nq) (And.intro (H.out.2.2.1.drewN nq) (turns_drewN (fun q => q ∈ b :: ((T.bin cb A ck ca (T.bin db B dk da C)).blks ++ O.blks)) w nq))))
  generalize w.drewN nq = X at *
  clear c0 c1 c2 c3 c4
  go_wp2_with fail
  refine (HV.out X HX.out.2.1).mono ?_
  rintro e x ⟨rfl, rfl⟩
  go_wp2_with fail
  refine (HO.out _ HX.out.2.2.1).mono ?_
  rintro e x ⟨rfl, rfl⟩
  go_wp2_with fail
  obtain ⟨d0, d1, d2, d3, d4⟩ := (show Nd _ cb ck ca _ (loc A) (some ⟨db, 0, none⟩) from HX.out.2.1.1).cells
  go_quiet (first | (go_at_call_of 45 (loc A); exact Calls.quiet_of_same (HA.out _ (HX.out.2.1.2.1.drewN _))) | (go_at_call 45; exact Calls.quiet_of_same (HI.out _ (HX.out.2.1.2.2.drewN _))))
  have HY := Lib.hid (And.intro (HX.out.1.drewN nq) (And.intro (HX.out.2.1.drewN nq) (And.intro (HX.out.2.2.1.drewN nq) (HX.out.2.2.2.trans (turns_drewN (fun q => q ∈ b :: ((T.bin cb A ck ca (T.bin db B dk da C)).blks ++ O.blks)) _ nq) fun _ _ h => h))))
  generalize x.drewN nq = Y at *
  clear d0 d1 d2 d3 d4 HX
  obtain ⟨p1, p2, p3, p4, p5, p6, p7⟩ := apart4 H.out.2.2.2
  obtain ⟨hn, hl, hr, ht0⟩ := HY.out
  have HT := Lib.hid (turnedLeft_any (b := cb) (b2 := db) (l := A) (m := B) (r := C) Y hl.1 hl.2.2.1 hl.2.1 hl.2.2.2.1 hl.2.2.2.2 p3
    (fun q hq e => e.elim (p4 q hq).2.1 (p4 q hq).2.2) (fun q hq e => e.elim (p5 q hq).2.1 (p5 q hq).2.2) (fun q hq e => e.elim (p6 q hq).2.1 (p6 q hq).2.2) (by have := HS.out; omega))
  have HZ := Lib.hid (And.intro hn (And.intro hr (And.intro ht0 (And.intro p1 (And.intro p2 (And.intro p3 (And.intro p4 (And.intro p5 (And.intro p6 p7)))))))))
  clear hn hl hr ht0 p1 p2 p3 p4 p5 p6 p7 HY
  go_wp2_with fail
  refine HT.out.mono ?_
  rintro e y ⟨rfl, ht, hy⟩
  obtain ⟨hn, ho, ht0, p1, p2, p3, p4, p5, p6, p7⟩ := HZ.out
  replace hn := hn.turn ht fun e => e.elim p1 p2
  replace ho := ho.turn ht fun q hq e => e.elim (p7 q hq).2.1 (p7 q hq).2.2
  obtain ⟨Y2, hY2⟩ : ∃ Y2, Y2 = y.setCell ⟨b, 3, none⟩ (.pointer (some ⟨db, 0, none⟩)) := ⟨_, rfl⟩
  have t2 : Turns (fun q => q = b) y Y2 := by rw [hY2]; exact turn1 ..
  have n2 := hn.setl (some ⟨db, 0, none⟩)
  rw [← hY2] at n2
  have hy2 := hy.turn t2 (by
    intro q hq e
    subst e
    simp only [T.blks, List.mem_cons, List.mem_append] at hq
    rcases hq with rfl | (rfl | h | h) | h
    · exact p2 rfl
    · exact p1 rfl
    · exact (p4 _ h).1 rfl
    · exact (p5 _ h).1 rfl
    · exact (p6 _ h).1 rfl)
  have ho2 := ho.turn t2 fun q hq => (p7 q hq).1
  obtain ⟨g0, g1, g2, g3, g4⟩ := hn.cells
  have gf := hn.free 3
  have HT2 := Lib.hid (turnedRight_any (b := b) (b2 := db) (l := O) (m := C) (r := T.bin cb A ck ca B) Y2 n2 hy2.1 ho2 hy2.2.2 hy2.2.1 p2
    (fun q hq e => e.elim (p7 q hq).1 (p7 q hq).2.2) (fun q hq e => e.elim (p6 q hq).1 (p6 q hq).2.2) (fun q hq e => by
      simp only [T.blks, List.mem_cons, List.mem_append] at hq
      rcases hq with rfl | hq | hq
      · exact e.elim (fun e => p1 e.symm) p3
      · exact e.elim (p4 q hq).1 (p4 q hq).2.2
      · exact e.elim (p5 q hq).1 (p5 q hq).2.2) (by have := HS.out; simp only [T.size]; omega))
  have HU := Lib.hid hY2
  have HW := Lib.hid (And.intro ht0 (And.intro ht t2))
  clear hn ho t2 n2 hy2 ho2 hy ht ht0 hY2 p1 p2 p3 p4 p5 p6 p7 HZ HT
  go_wp2_with fail
  rw [← HU.out]
  refine HT2.out.mono ?_
  rintro e z ⟨rfl, ht3, hz⟩
  go_wp2_with fail
  go_ret
  obtain ⟨ht0, ht, t2⟩ := HW.out
  refine ⟨rfl, ((ht0.trans ht fun q _ e => ?_).trans t2 fun q _ e => ?_).trans ht3 fun q _ e => ?_, hz⟩
  · rcases e with rfl | rfl <;> simp [T.blks]
  · subst e; simp
  · rcases e with rfl | rfl <;> simp [T.blks]

set_option maxHeartbeats 4000000 in
set_option maxRecDepth 100000 in
theorem bal_right1 {b cb db : Nat} {A B C O : T} {k ck dk : ByteArray} {a ca da : Int} (w : World) (h : Top w b O k a (T.bin cb (T.bin db C dk da B) ck ca A)) (h1 : 3 * (O.size + 1) < ((C.size + 1 + B.size) + 1 + A.size) + 1) (h2 : 2 * (A.size + 1) ≤ (C.size + 1 + B.size) + 1) : Balances w b O k a (T.bin cb (T.bin db C dk da B) ck ca A) (T.bin db (T.bin b O k a C) dk da (T.bin cb B ck ca A)) := by
  obtain ⟨⟨c, hn⟩, hl, hr, ha, hs⟩ := h
  obtain ⟨c0, c1, c2, c3, c4⟩ := (show Nd w b k a c (loc O) (some ⟨cb, 0, none⟩) from hn).cells
  have hsz : O.size + ((C.size + 1 + B.size) + 1 + A.size) ≤ 80000 := by simp only [T.size] at hs; omega
  have H := Lib.hid (And.intro hn (And.intro hl (And.intro hr ha)))
  clear hn hl hr ha hs
  have hs1 := hsz
  obtain ⟨nO, hO⟩ : ∃ n, n = O.size := ⟨_, rfl⟩
  obtain ⟨nA, hA⟩ : ∃ n, n = A.size := ⟨_, rfl⟩
  obtain ⟨nI, hI⟩ : ∃ n, n = (C.size + 1 + B.size) := ⟨_, rfl⟩
  obtain ⟨nV, hV⟩ : ∃ n, n = ((C.size + 1 + B.size) + 1 + A.size) := ⟨_, rfl⟩
  rw [← hO, ← hV] at h1 hs1
  rw [← hA, ← hI] at h2
  have hAI : nA + nI + 1 = nV := by omega
  have HV := Lib.hid (show ∀ w, IsT w (T.bin cb (T.bin db C dk da B) ck ca A) → Calls Try.prog _ #[.pointer (some ⟨cb, 0, none⟩)] w fun e x => e = .returned (.int .i64 ((nV : Int) + 1)) ∧ x = w from fun w h => by rw [hV]; exact weight_any (t := (T.bin cb (T.bin db C dk da B) ck ca A)) w h (by simp only [T.size]; omega))
  have HO := Lib.hid (show ∀ w, IsT w O → Calls _ _ _ w fun e x => e = .returned (.int .i64 ((nO : Int) + 1)) ∧ x = w from fun w h => by rw [hO]; exact weight_any w h (by omega))
  have HA := Lib.hid (show ∀ w, IsT w A → Calls _ _ _ w fun e x => e = .returned (.int .i64 ((nA : Int) + 1)) ∧ x = w from fun w h => by rw [hA]; exact weight_any w h (by omega))
  have HI := Lib.hid (show ∀ w, IsT w (T.bin db C dk da B) → Calls Try.prog _ #[.pointer (some ⟨db, 0, none⟩)] w fun e x => e = .returned (.int .i64 ((nI : Int) + 1)) ∧ x = w from fun w h => by rw [hI]; exact weight_any (t := (T.bin db C dk da B)) w h (by simp only [T.size]; omega))
  have HS := Lib.hid hsz
  clear hO hA hI hV hsz
  unfold Balances
  go_enter Try.func37, Try.ntmps37
  go_wp2_with fail
  go_quiet (fail)
  have HX := Lib.hid (And.intro (H.out.1.drewN nq) (And.intro (H.out.2.1.drewN nq) (And.intro (H.out.2.2.1.drewN nq) (turns_drewN (fun q => q ∈ b :: (O.blks ++ (T.bin cb (T.bin db C dk da B) ck ca A).blks)) w nq))))
  generalize w.drewN nq = X at *
  clear c0 c1 c2 c3 c4
  go_wp2_with fail
  refine (HO.out X HX.out.2.1).mono ?_
  rintro e x ⟨rfl, rfl⟩
  go_wp2_with fail
  refine (HV.out _ HX.out.2.2.1).mono ?_
  rintro e x ⟨rfl, rfl⟩
  go_wp2_with fail
  refine (HV.out _ HX.out.2.2.1).mono ?_
  rintro e x ⟨rfl, rfl⟩
  go_wp2_with fail
  refine (HO.out _ HX.out.2.1).mono ?_
  rintro e x ⟨rfl, rfl⟩
  go_wp2_with fail
  obtain ⟨d0, d1, d2, d3, d4⟩ := (show Nd _ cb ck ca _ (some ⟨db, 0, none⟩) (loc A) from HX.out.2.2.1.1).cells
  go_quiet (first | (go_at_call_of 45 (loc A); exact Calls.quiet_of_same (HA.out _ (HX.out.2.2.1.2.2.drewN _))) | (go_at_call 45; exact Calls.quiet_of_same (HI.out _ (HX.out.2.2.1.2.1.drewN _))))
  have HY := Lib.hid (And.intro (HX.out.1.drewN nq) (And.intro (HX.out.2.1.drewN nq) (And.intro (HX.out.2.2.1.drewN nq) (HX.out.2.2.2.trans (turns_drewN (fun q => q ∈ b :: (O.blks ++ (T.bin cb (T.bin db C dk da B) ck ca A).blks)) _ nq) fun _ _ h => h))))
  generalize x.drewN nq = Y at *
  clear d0 d1 d2 d3 d4 HX
  obtain ⟨p1, p2, p3, p4, p5, p6, p7⟩ := apart4r H.out.2.2.2
  obtain ⟨hn, hl, hr, ht0⟩ := HY.out
  have HT := Lib.hid (turnedRight_any (b := cb) (b2 := db) (l := A) (m := B) (r := C) Y hr.1 hr.2.1.1 hr.2.2 hr.2.1.2.2 hr.2.1.2.1 p3
    (fun q hq e => e.elim (p4 q hq).2.1 (p4 q hq).2.2) (fun q hq e => e.elim (p5 q hq).2.1 (p5 q hq).2.2) (fun q hq e => e.elim (p6 q hq).2.1 (p6 q hq).2.2) (by have := HS.out; omega))
  have HZ := Lib.hid (And.intro hn (And.intro hl (And.intro ht0 (And.intro p1 (And.intro p2 (And.intro p3 (And.intro p4 (And.intro p5 (And.intro p6 p7)))))))))
  clear hn hl hr ht0 p1 p2 p3 p4 p5 p6 p7 HY
  go_wp2_with fail
  refine HT.out.mono ?_
  rintro e y ⟨rfl, ht, hy⟩
  obtain ⟨hn, ho, ht0, p1, p2, p3, p4, p5, p6, p7⟩ := HZ.out
  replace hn := hn.turn ht fun e => e.elim p1 p2
  replace ho := ho.turn ht fun q hq e => e.elim (p7 q hq).2.1 (p7 q hq).2.2
  obtain ⟨Y2, hY2⟩ : ∃ Y2, Y2 = y.setCell ⟨b, 4, none⟩ (.pointer (some ⟨db, 0, none⟩)) := ⟨_, rfl⟩
  have t2 : Turns (fun q => q = b) y Y2 := by rw [hY2]; exact turn1 ..
  have n2 := hn.setr (some ⟨db, 0, none⟩)
  rw [← hY2] at n2
  have hy2 := hy.turn t2 (by
    intro q hq e
    subst e
    simp only [T.blks, List.mem_cons, List.mem_append] at hq
    rcases hq with rfl | h | (rfl | h | h)
    · exact p2 rfl
    · exact (p6 _ h).1 rfl
    · exact p1 rfl
    · exact (p5 _ h).1 rfl
    · exact (p4 _ h).1 rfl)
  have ho2 := ho.turn t2 fun q hq => (p7 q hq).1
  obtain ⟨g0, g1, g2, g3, g4⟩ := hn.cells
  have gf := hn.free 4
  have HT2 := Lib.hid (turnedLeft_any (b := b) (b2 := db) (l := O) (m := C) (r := T.bin cb B ck ca A) Y2 n2 hy2.1 ho2 hy2.2.1 hy2.2.2 p2
    (fun q hq e => e.elim (p7 q hq).1 (p7 q hq).2.2) (fun q hq e => e.elim (p6 q hq).1 (p6 q hq).2.2) (fun q hq e => by
      simp only [T.blks, List.mem_cons, List.mem_append] at hq
      rcases hq with rfl | hq | hq
      · exact e.elim (fun e => p1 e.symm) p3
      · exact e.elim (p5 q hq).1 (p5 q hq).2.2
      · exact e.elim (p4 q hq).1 (p4 q hq).2.2) (by have := HS.out; simp only [T.size]; omega))
  have HU := Lib.hid hY2
  have HW := Lib.hid (And.intro ht0 (And.intro ht t2))
  clear hn ho t2 n2 hy2 ho2 hy ht ht0 hY2 p1 p2 p3 p4 p5 p6 p7 HZ HT
  go_wp2_with fail
  rw [← HU.out]
  refine HT2.out.mono ?_
  rintro e z ⟨rfl, ht3, hz⟩
  go_wp2_with fail
  go_ret
  obtain ⟨ht0, ht, t2⟩ := HW.out
  refine ⟨rfl, ((ht0.trans ht fun q _ e => ?_).trans t2 fun q _ e => ?_).trans ht3 fun q _ e => ?_, hz⟩
  · rcases e with rfl | rfl <;> simp [T.blks]
  · subst e; simp
  · rcases e with rfl | rfl <;> simp [T.blks]

theorem balanced_any {b : Nat} {l r : T} {k : ByteArray} {a : Int} (w : World) (h : Top w b l k a r) : Balances w b l k a r (T.bal b l k a r) := by
  unfold T.bal
  by_cases h1 : 3 * (r.size + 1) < l.size + 1
  · rw [if_pos h1]
    cases l with
    | nil => simp only [T.size] at h1; omega
    | bin cb A ck ca B =>
      simp only [T.size] at h1
      by_cases h2 : 2 * (A.size + 1) ≤ B.size + 1
      · rw [if_pos (show 2 * ((T.bin cb A ck ca B).left.size + 1) ≤ (T.bin cb A ck ca B).right.size + 1 from h2)]
        cases B with
        | nil => simp only [T.size] at h2; omega
        | bin db B dk da C => exact bal_left1 w h h1 h2
      · rw [if_neg (show ¬ 2 * ((T.bin cb A ck ca B).left.size + 1) ≤ (T.bin cb A ck ca B).right.size + 1 from h2)]
        exact bal_left2 w h h1 h2
  · rw [if_neg h1]
    by_cases h3 : 3 * (l.size + 1) < r.size + 1
    · rw [if_pos h3]
      cases r with
      | nil => simp only [T.size] at h3; omega
      | bin cb B ck ca A =>
        simp only [T.size] at h3
        by_cases h2 : 2 * (A.size + 1) ≤ B.size + 1
        · rw [if_pos (show 2 * ((T.bin cb B ck ca A).right.size + 1) ≤ (T.bin cb B ck ca A).left.size + 1 from h2)]
          cases B with
          | nil => simp only [T.size] at h2; omega
          | bin db C dk da B => exact bal_right1 w h h3 h2
        · rw [if_neg (show ¬ 2 * ((T.bin cb B ck ca A).right.size + 1) ≤ (T.bin cb B ck ca A).left.size + 1 from h2)]
          exact bal_right2 w h h3 h2
    · rw [if_neg h3]
      exact bal_even w h h1 h3
end Hg
end Go.Proofs.Ytldacdpejncbnaa
