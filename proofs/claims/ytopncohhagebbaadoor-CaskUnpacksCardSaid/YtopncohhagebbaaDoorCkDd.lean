/-
  Layer 10 (cask): the document's takeNode.
-/
import Derived.Test.YtopncohhagebbaaDoorCkDp
import Derived.Test.YtopncohhagebbaaDoorCkRow
import Derived.Test.YtopncohhagebbaaDoorMgGr
namespace Go.Proofs.YtopncohhagebbaaDoor
open Go.RowKit
namespace Ck
open Knot (takeN takeT takeM value Turns)
open Tr (Nd none0 node4)
open Who (bs bs_list bs_size bs_self eq_of_list)
open Gr (NodeS nodeE elN)

abbrev lim1 : Nat → Int := fun _ => 1048576
abbrev tNd : TypeId := 52
theorem slice_from (s : ByteArray) (z : Int) (k : Nat) (hz : z = k) (hk : k ≤ s.size) (W : World) : (Instr.slice 9 (.string s) (some (.int .i64 z)) none none).run Tryd.prog W = .ok (.string (bs (s.data.toList.drop k))) W := by
  subst hz
  rw [run_slice_string_from_if _ 9 s .i64 (k : Int) Tryd.underlying9, if_pos (by omega), Int.toNat_natCast]
  have e : s.extract k s.size = bs (s.data.toList.drop k) := by
    apply eq_of_list
    rw [bs_list, Gl.extract_list]
  rw [e]
theorem node_of {w : World} {B C : Nat} {k : Int} {a b : ByteArray} {l : List Nd} {ao : Option Addr} {cap : Nat} (ha : a.size ≤ maxLen) (hb : b.size ≤ maxLen) (h : Gr.RowS nodeE w B tNd (.slice ao l.length cap) l) (hC : C ≤ B) :
    NodeS (fun g => C ≤ g) w (.mk k a b l) (node4 k a b (.slice ao l.length cap)) := by
  obtain ⟨vs, h1, h2⟩ := Gr.RowS.kids h
  have h3 : NodeS (fun g => B ≤ g) w (.mk k a b l) (node4 k a b (.slice ao l.length cap)) := by
    rw [NodeS]
    exact ⟨ao, cap, vs, rfl, ⟨ha, hb⟩, fun hl => by obtain ⟨g, e, h4, h5⟩ := h1 hl; exact ⟨g, 0, e, h4, h5⟩, h2⟩
  exact Gr.Elt.mono (E := nodeE) (show nodeE.is (fun g => B ≤ g) w (.mk k a b l) _ from h3) fun g hg _ => Nat.le_trans hC hg
theorem textS_short (l : List UInt8) : (textS l 16).1.size ≤ maxLen := by
  rw [textS]
  cases ht : takeT l 16 with
  | none => exact Nat.zero_le _
  | some p =>
    obtain ⟨t, r⟩ := p
    have := (takeT_of ht).2
    rw [bs_size]
    unfold maxLen
    omega
theorem new1 (w : World) (o : Obj) : Below w.heap.size w (w.alloc o) := (Below.refl _ _).alloc (Nat.le_refl _) o
/-- What the document's takeNode answers. -/
def DN (d : Nat) : Prop := ∀ (s : ByteArray) (w : World), s.size ≤ 4000 →
  Calls Tryd.prog 30 #[.string s, .int .i64 (d : Int)] w fun e x => Below w.heap.size w x ∧
    ((nodeT lim1 d s.data.toList = none ∧ e = .returned (.tuple #[node4 0 none0 none0 (.slice none 0 0), .int .i64 0])) ∨
      ∃ n r k v, nodeT lim1 d s.data.toList = some (n, r) ∧ Cutd s.data.toList r k ∧ e = .returned (.tuple #[v, .int .i64 (k : Int)]) ∧ NodeS (fun g => w.heap.size ≤ g) x n v)

set_option maxHeartbeats 16000000 in
set_option maxRecDepth 100000 in
theorem dnode_step (d : Nat) (hd : d ≤ 8) (hsub : ∀ d', d = d' + 1 → DN d') : DN d := by
  intro s w hs
  obtain ⟨l, hl⟩ : ∃ l, l = s.data.toList := ⟨_, rfl⟩
  have hsz : l.length = s.size := by rw [hl, Lib.size_eq]
  obtain ⟨a, ha⟩ : ∃ a, a = (numS l 6).2 := ⟨_, rfl⟩
  obtain ⟨b, hb⟩ : ∃ b, b = (textS (l.drop a) 16).2 := ⟨_, rfl⟩
  obtain ⟨c, hc⟩ : ∃ c, c = (textS (l.drop (a + b)) 16).2 := ⟨_, rfl⟩
  obtain ⟨q, hq⟩ : ∃ q, q = (numS (l.drop (a + b + c)) 1048576).2 := ⟨_, rfl⟩
  have ga : a ≤ l.length := by rw [ha]; exact numS_le _ _
  have gb : a + b ≤ l.length := by have := textS_le (l.drop a) 16; rw [← hb, List.length_drop] at this; omega
  have gc : a + b + c ≤ l.length := by have := textS_le (l.drop (a + b)) 16; rw [← hc, List.length_drop] at this; omega
  have gq : a + b + c + q ≤ l.length := by have := numS_le (l.drop (a + b + c)) 1048576; rw [← hq, List.length_drop] at this; omega
  have hm17 := numS_lt (l.drop (a + b + c)) 1048576
  have HH := Lib.hid (fun d' (e : d = d' + 1) => (show nodeT lim1 d l = nodeT lim1 (d' + 1) l by rw [e]).trans (node_head lim1 d' l ha hb hc hq))
  have HN1 := Lib.hid (fun W => dnums_any s 6 W (by omega))
  have hs1 := slice_from s (a : Int) a rfl (by omega)
  have HN2 := Lib.hid (fun W => dtexts_any (bs (l.drop a)) 16 W (by rw [bs_size, List.length_drop]; omega))
  have hs2 := slice_from s ((a : Int) + (b : Int)) (a + b) (by omega) (by omega)
  have HN3 := Lib.hid (fun W => dtexts_any (bs (l.drop (a + b))) 16 W (by rw [bs_size, List.length_drop]; omega))
  have hs3 := slice_from s ((a : Int) + (b : Int) + (c : Int)) (a + b + c) (by omega) (by omega)
  have HN4 := Lib.hid (fun W => dnums_any (bs (l.drop (a + b + c))) 1048576 W (by rw [bs_size, List.length_drop]; omega))
  rw [← hl] at hs1 hs2 hs3 HN1 ⊢
  rw [bs_list] at HN2 HN3 HN4
  rw [← ha] at HN1
  rw [← hb] at HN2
  rw [← hc] at HN3
  rw [← hq] at HN4
  generalize hkk : (numS l 6).1 = kk at *
  generalize hone : (textS (l.drop a) 16).1 = one at *
  generalize htwo : (textS (l.drop (a + b)) 16).1 = two at *
  generalize hcount : (numS (l.drop (a + b + c)) 1048576).1 = count at *
  generalize bs (l.drop a) = t1 at *
  generalize bs (l.drop (a + b)) = t2 at *
  generalize bs (l.drop (a + b + c)) = t3 at *
  have HSub := Lib.hid hsub
  have HLn := Lib.hid (And.intro hl hsz)
  have HEq := Lib.hid (And.intro hkk (And.intro hone (And.intro htwo hcount)))
  clear hl ha hb hc hq hsub hkk hone htwo hcount
  have B0 := Lib.hid (C4.new w tNd (.int .i64 0) (.string ⟨#[]⟩) (.string ⟨#[]⟩) (.slice none 0 0))
  have al : Below w.heap.size w (w.alloc (.cells #[.int .i64 0, .string ⟨#[]⟩, .string ⟨#[]⟩, .slice none 0 0] tNd)) := (Below.refl _ _).alloc (Nat.le_refl _) _
  have z1 : (w.alloc (.cells #[.int .i64 0, .string ⟨#[]⟩, .string ⟨#[]⟩, .slice none 0 0] tNd)).heap.size = w.heap.size + 1 := by simp
  have al2 : Below (w.alloc (.cells #[.int .i64 0, .string ⟨#[]⟩, .string ⟨#[]⟩, .slice none 0 0] tNd)).heap.size (w.alloc (.cells #[.int .i64 0, .string ⟨#[]⟩, .string ⟨#[]⟩, .slice none 0 0] tNd)) ((w.alloc (.cells #[.int .i64 0, .string ⟨#[]⟩, .string ⟨#[]⟩, .slice none 0 0] tNd)).alloc (.cells #[.int .i64 0, .string ⟨#[]⟩, .string ⟨#[]⟩, .slice none 0 0] tNd)) := (Below.refl _ _).alloc (Nat.le_refl _) _
  replace B0 := Lib.hid (B0.out.on al2)
  have hn := C4.new (w.alloc (.cells #[.int .i64 0, .string ⟨#[]⟩, .string ⟨#[]⟩, .slice none 0 0] tNd)) tNd (.int .i64 0) (.string ⟨#[]⟩) (.string ⟨#[]⟩) (.slice none 0 0)
  rw [z1] at hn
  have B1 := Lib.hid hn
  have BL := Lib.hid (al.trans (al2.mono al.size))
  clear al al2 hn z1
  go_enter Tryd.func30, Tryd.ntmps30
  go_upto_region 2 with fail
  generalize (w.alloc (.cells #[.int .i64 0, .string ⟨#[]⟩, .string ⟨#[]⟩, .slice none 0 0] 52)).alloc (.cells #[.int .i64 0, .string ⟨#[]⟩, .string ⟨#[]⟩, .slice none 0 0] 52) = w1 at *
  go_wp2_with fail
  refine (HN1.out _).mono ?_
  rintro e x ⟨rfl, rfl⟩
  go_wp2_with fail
  refine (HN2.out _).mono ?_
  rintro e x ⟨rfl, rfl⟩
  go_wp2_with fail
  refine (HN3.out _).mono ?_
  rintro e x ⟨rfl, rfl⟩
  go_wp2_with fail
  refine (HN4.out _).mono ?_
  rintro e x ⟨rfl, rfl⟩
  obtain ⟨q10, q11, q12, q13⟩ := B1.out.cells
  clear HN1 HN2 HN3 HN4 hs1 hs2 hs3
  by_cases h0 : (a = 0 ∨ b = 0 ∨ c = 0 ∨ q = 0) ∨ d = 0
  · have hno : nodeT lim1 d l = none := by
      rcases d with _ | d'
      · rw [nodeT]
      · rw [HH.out d' rfl, if_pos (h0.resolve_right (by omega))]
    have HNo := Lib.hid hno
    obtain ⟨f0, f1, f2, f3⟩ := B0.out.free
    obtain ⟨c0, c1, c2, c3⟩ := B0.out.cells
    have t1 : Turns (fun g => g = w.heap.size) w1 ((((w1.setCell ⟨w.heap.size, 0, none⟩ (.int .i64 0)).setCell ⟨w.heap.size, 1, none⟩ (.string ⟨#[]⟩)).setCell ⟨w.heap.size, 2, none⟩ (.string ⟨#[]⟩)).setCell ⟨w.heap.size, 3, none⟩ (.slice none 0 0)) := (((((Turns.refl (fun g => g = w.heap.size) w1).setCell (p := ⟨w.heap.size, 0, none⟩) rfl (.int .i64 0)).setCell (p := ⟨w.heap.size, 1, none⟩) rfl (.string ⟨#[]⟩)).setCell (p := ⟨w.heap.size, 2, none⟩) rfl (.string ⟨#[]⟩)).setCell (p := ⟨w.heap.size, 3, none⟩) rfl (.slice none 0 0))
    have HS := Lib.hid (And.intro (show C4 w.heap.size tNd (.int .i64 0) (.string ⟨#[]⟩) (.string ⟨#[]⟩) (.slice none 0 0) ((((w1.setCell ⟨w.heap.size, 0, none⟩ (.int .i64 0)).setCell ⟨w.heap.size, 1, none⟩ (.string ⟨#[]⟩)).setCell ⟨w.heap.size, 2, none⟩ (.string ⟨#[]⟩)).setCell ⟨w.heap.size, 3, none⟩ (.slice none 0 0)) from (Lib.heap_setCell_same (i := 3) (Lib.heap_setCell_same (i := 2) (Lib.heap_setCell_same (i := 1) (Lib.heap_setCell_same (i := 0) B0.out (.int .i64 0)) (.string ⟨#[]⟩)) (.string ⟨#[]⟩)) (.slice none 0 0))) (BL.out.trans (t1.below BL.out.size fun k hk => Nat.le_of_eq hk.symm)))
    have key : (a = 0) ∨ (a ≠ 0 ∧ b = 0) ∨ (a ≠ 0 ∧ b ≠ 0 ∧ c = 0) ∨ (a ≠ 0 ∧ b ≠ 0 ∧ c ≠ 0 ∧ q = 0) ∨ (a ≠ 0 ∧ b ≠ 0 ∧ c ≠ 0 ∧ q ≠ 0 ∧ d = 0) := by omega
    clear t1 hno h0
    rcases key with h1 | ⟨h1, h2⟩ | ⟨h1, h2, h3⟩ | ⟨h1, h2, h3, h4⟩ | ⟨h1, h2, h3, h4, h5⟩
    · have e1 : ((a : Int) == 0) = true := by simp; omega
      clear h1
      go_wp2_with fail
      obtain ⟨g0, g1, g2, g3⟩ := HS.out.1.cells
      exact bodyPost_ret (v := .tuple #[node4 0 none0 none0 (.slice none 0 0), .int .i64 0]) (by simp [results, Tryd.results30, go_sem, g0, g1, g2, g3, node4, none0]) rfl ⟨HS.out.2, .inl ⟨HNo.out, rfl⟩⟩
    · have e1 : ((a : Int) == 0) = false := by simp; omega
      have e2 : ((b : Int) == 0) = true := by simp; omega
      clear h1 h2
      go_wp2_with fail
      obtain ⟨g0, g1, g2, g3⟩ := HS.out.1.cells
      exact bodyPost_ret (v := .tuple #[node4 0 none0 none0 (.slice none 0 0), .int .i64 0]) (by simp [results, Tryd.results30, go_sem, g0, g1, g2, g3, node4, none0]) rfl ⟨HS.out.2, .inl ⟨HNo.out, rfl⟩⟩
    · have e1 : ((a : Int) == 0) = false := by simp; omega
      have e2 : ((b : Int) == 0) = false := by simp; omega
      have e3 : ((c : Int) == 0) = true := by simp; omega
      clear h1 h2 h3
      go_wp2_with fail
      obtain ⟨g0, g1, g2, g3⟩ := HS.out.1.cells
      exact bodyPost_ret (v := .tuple #[node4 0 none0 none0 (.slice none 0 0), .int .i64 0]) (by simp [results, Tryd.results30, go_sem, g0, g1, g2, g3, node4, none0]) rfl ⟨HS.out.2, .inl ⟨HNo.out, rfl⟩⟩
    · have e1 : ((a : Int) == 0) = false := by simp; omega
      have e2 : ((b : Int) == 0) = false := by simp; omega
      have e3 : ((c : Int) == 0) = false := by simp; omega
      have e4 : ((q : Int) == 0) = true := by simp; omega
      clear h1 h2 h3 h4
      go_wp2_with fail
      obtain ⟨g0, g1, g2, g3⟩ := HS.out.1.cells
      exact bodyPost_ret (v := .tuple #[node4 0 none0 none0 (.slice none 0 0), .int .i64 0]) (by simp [results, Tryd.results30, go_sem, g0, g1, g2, g3, node4, none0]) rfl ⟨HS.out.2, .inl ⟨HNo.out, rfl⟩⟩
    · have e1 : ((a : Int) == 0) = false := by simp; omega
      have e2 : ((b : Int) == 0) = false := by simp; omega
      have e3 : ((c : Int) == 0) = false := by simp; omega
      have e4 : ((q : Int) == 0) = false := by simp; omega
      have e5 : ((d : Int) == 0) = true := by simp; omega
      clear h1 h2 h3 h4 h5
      go_wp2_with fail
      obtain ⟨g0, g1, g2, g3⟩ := HS.out.1.cells
      exact bodyPost_ret (v := .tuple #[node4 0 none0 none0 (.slice none 0 0), .int .i64 0]) (by simp [results, Tryd.results30, go_sem, g0, g1, g2, g3, node4, none0]) rfl ⟨HS.out.2, .inl ⟨HNo.out, rfl⟩⟩
  · obtain ⟨d', rfl⟩ : ∃ d', d = d' + 1 := ⟨d - 1, by omega⟩
    have hd0 : ((d' + 1 : Nat) : Int) = (d' : Int) + 1 := by omega
    rw [hd0]
    have HQ := Lib.hid (show nodeT lim1 (d' + 1) l = match repsT (nodeT lim1 d') count (l.drop (a + b + c + q)) with
        | none => none
        | some (ks, z) => some (.mk (kk : Nat) one two ks, z) from by
      obtain ⟨-, -, -, g4⟩ := HEq.out
      rw [(HH.out d' rfl).trans (if_neg (by omega)), show (numS (l.drop (a + b + c)) (lim1 d')).1 = count from g4]
      cases repsT (nodeT lim1 d') count (l.drop (a + b + c + q)) <;> rfl)
    have HShort := Lib.hid (show one.size ≤ maxLen ∧ two.size ≤ maxLen from ⟨by rw [← HEq.out.2.1]; exact textS_short _, by rw [← HEq.out.2.2.1]; exact textS_short _⟩)
    have HS := Lib.hid (HSub.out d' rfl)
    have e1 : ((a : Int) == 0) = false := by simp; omega
    have e2 : ((b : Int) == 0) = false := by simp; omega
    have e3 : ((c : Int) == 0) = false := by simp; omega
    have e4 : ((q : Int) == 0) = false := by simp; omega
    have e5 : (((d' : Int) + 1) == 0) = false := by simp; omega
    obtain ⟨f0, f1, f2, f3⟩ := B1.out.free
    have t1 : Turns (fun g => g = w.heap.size + 1) w1 ((((w1.setCell ⟨w.heap.size + 1, 0, none⟩ (.int .i64 (kk : Nat))).setCell ⟨w.heap.size + 1, 1, none⟩ (.string one)).setCell ⟨w.heap.size + 1, 2, none⟩ (.string two)).setCell ⟨w.heap.size + 1, 3, none⟩ (.slice none 0 0)) := (((((Turns.refl (fun g => g = w.heap.size + 1) w1).setCell (p := ⟨w.heap.size + 1, 0, none⟩) rfl (.int .i64 (kk : Nat))).setCell (p := ⟨w.heap.size + 1, 1, none⟩) rfl (.string one)).setCell (p := ⟨w.heap.size + 1, 2, none⟩) rfl (.string two)).setCell (p := ⟨w.heap.size + 1, 3, none⟩) rfl (.slice none 0 0))
    have HB := Lib.hid (show C4 (w.heap.size + 1) tNd (.int .i64 (kk : Nat)) (.string one) (.string two) (.slice none 0 0) ((((w1.setCell ⟨w.heap.size + 1, 0, none⟩ (.int .i64 (kk : Nat))).setCell ⟨w.heap.size + 1, 1, none⟩ (.string one)).setCell ⟨w.heap.size + 1, 2, none⟩ (.string two)).setCell ⟨w.heap.size + 1, 3, none⟩ (.slice none 0 0)) from (Lib.heap_setCell_same (i := 3) (Lib.heap_setCell_same (i := 2) (Lib.heap_setCell_same (i := 1) (Lib.heap_setCell_same (i := 0) B1.out (.int .i64 (kk : Nat))) (.string one)) (.string two)) (.slice none 0 0)))
    have HZ := Lib.hid (And.intro (B0.out.turn t1 (by omega)) (BL.out.trans (t1.below BL.out.size fun k hk => by omega)))
    have hb1 : 1 ≤ a + b + c + q := by omega
    clear t1 h0 HSub HH
    go_upto_region 12 with fail
    generalize ((((w1.setCell ⟨w.heap.size + 1, 0, none⟩ (.int .i64 (kk : Nat))).setCell ⟨w.heap.size + 1, 1, none⟩ (.string one)).setCell ⟨w.heap.size + 1, 2, none⟩ (.string two)).setCell ⟨w.heap.size + 1, 3, none⟩ (.slice none 0 0)) = w2 at *
    clear e1 e2 e3 e4 e5 f0 f1 f2 f3 q10 q11 q12 q13 B0 B1 BL
    have HRow0 := Lib.hid (RowX.nil nodeE (fun _ => False) w2 (w.heap.size + 2) tNd)
    go_loopw [16, 13] (fun i p wr => ∃ (j pos : Nat) (xs : List Nd) (rv : Value), i = .int .i64 j ∧ p = .int .i64 pos ∧ j ≤ count ∧ pos ≤ l.length ∧ j + 1 ≤ pos ∧ Hid (repsT (nodeT lim1 d') j (l.drop (a + b + c + q)) = some (xs, l.drop pos) ∧ xs.length = j ∧ Below w.heap.size w wr ∧ C4 (w.heap.size) tNd (.int .i64 0) (.string ⟨#[]⟩) (.string ⟨#[]⟩) (.slice none 0 0) wr ∧ C4 (w.heap.size + 1) tNd (.int .i64 (kk : Nat)) (.string one) (.string two) rv wr ∧ RowX nodeE (fun _ => False) wr (w.heap.size + 2) tNd rv xs)) (fun i _ _ => count - (intOf i).toNat)
    case atStart => exact ⟨0, a + b + c + q, [], _, rfl, by go_num, by omega, by omega, by omega, Lib.hid ⟨rfl, rfl, HZ.out.2, HZ.out.1, HB.out, HRow0.out⟩⟩
    case round =>
      obtain ⟨j, pos, xs, rv, rfl, rfl, hj, hp, hjp, HJ⟩ := hrel
      by_cases hlt : j < count
      · have hps : pos ≤ s.size := by rw [← HLn.out.2]; exact hp
        have hsl := slice_from s (pos : Int) pos rfl hps
        rw [← HLn.out.1] at hsl
        have HSc := Lib.hid (HS.out (bs (l.drop pos)) wr (by rw [bs_size, List.length_drop]; have := HLn.out.2; omega))
        rw [bs_list] at HSc
        generalize bs (l.drop pos) = tx at *
        clear hps
        go_wp2_with fail
        refine HSc.out.mono ?_
        rintro e y ⟨hby, ⟨hno, rfl⟩ | ⟨n, r, k, v, hn, ⟨hk1, hk2, hk3⟩, rfl, hv⟩⟩
        · have HNo := Lib.hid (show nodeT lim1 (d' + 1) l = none from by
            rw [HQ.out, show count = j + 1 + (count - j - 1) by omega, reps_stop (count - j - 1) j HJ.out.1 hno])
          have hbx := hby.trans ((new1 y (.cells #[.int .i64 0, .string none0, .string none0, .slice none 0 0] tNd)).mono hby.size)
          have B0 := HJ.out.2.2.2.1.on hbx
          have HBl := Lib.hid (HJ.out.2.2.1.trans (hbx.mono HJ.out.2.2.1.size))
          clear hno hby hbx hsl HSc
          go_upto_region 15 with fail
          generalize y.alloc (.cells #[.int .i64 0, .string none0, .string none0, .slice none 0 0] tNd) = Y at *
          obtain ⟨f0, f1, f2, f3⟩ := B0.free
          have t1 : Turns (fun g => g = w.heap.size) Y ((((Y.setCell ⟨w.heap.size, 0, none⟩ (.int .i64 0)).setCell ⟨w.heap.size, 1, none⟩ (.string ⟨#[]⟩)).setCell ⟨w.heap.size, 2, none⟩ (.string ⟨#[]⟩)).setCell ⟨w.heap.size, 3, none⟩ (.slice none 0 0)) := (((((Turns.refl (fun g => g = w.heap.size) Y).setCell (p := ⟨w.heap.size, 0, none⟩) rfl (.int .i64 0)).setCell (p := ⟨w.heap.size, 1, none⟩) rfl (.string ⟨#[]⟩)).setCell (p := ⟨w.heap.size, 2, none⟩) rfl (.string ⟨#[]⟩)).setCell (p := ⟨w.heap.size, 3, none⟩) rfl (.slice none 0 0))
          have HF := Lib.hid (And.intro (show C4 (w.heap.size) tNd (.int .i64 0) (.string ⟨#[]⟩) (.string ⟨#[]⟩) (.slice none 0 0) ((((Y.setCell ⟨w.heap.size, 0, none⟩ (.int .i64 0)).setCell ⟨w.heap.size, 1, none⟩ (.string ⟨#[]⟩)).setCell ⟨w.heap.size, 2, none⟩ (.string ⟨#[]⟩)).setCell ⟨w.heap.size, 3, none⟩ (.slice none 0 0)) from (Lib.heap_setCell_same (i := 3) (Lib.heap_setCell_same (i := 2) (Lib.heap_setCell_same (i := 1) (Lib.heap_setCell_same (i := 0) B0 (.int .i64 0)) (.string ⟨#[]⟩)) (.string ⟨#[]⟩)) (.slice none 0 0))) (HBl.out.trans (t1.below HBl.out.size fun k hk => by omega)))
          obtain ⟨g0, g1, g2, g3⟩ := B0.cells
          clear t1 B0
          go_wp2_with fail
          clear f0 f1 f2 f3 g0 g1 g2 g3
          generalize ((((Y.setCell ⟨w.heap.size, 0, none⟩ (.int .i64 0)).setCell ⟨w.heap.size, 1, none⟩ (.string ⟨#[]⟩)).setCell ⟨w.heap.size, 2, none⟩ (.string ⟨#[]⟩)).setCell ⟨w.heap.size, 3, none⟩ (.slice none 0 0)) = F at *
          obtain ⟨g0, g1, g2, g3⟩ := HF.out.1.cells
          exact bodyPost_ret (v := .tuple #[node4 0 none0 none0 (.slice none 0 0), .int .i64 0]) (by simp [results, Tryd.results30, go_sem, g0, g1, g2, g3, node4, none0]) rfl ⟨HF.out.2, .inl ⟨HNo.out, rfl⟩⟩
        · obtain ⟨vo, vc, vks, ev, -⟩ := hv.open
          subst ev
          obtain ⟨ro, rc, rfl⟩ := HJ.out.2.2.2.2.2.slice
          have hbx := hby.trans ((new1 y (.cells #[.int .i64 n.kind, .string n.ta, .string n.tb, .slice vo n.kids.length vc] tNd)).mono hby.size)
          have HX := Lib.hid (C4.new y tNd (.int .i64 n.kind) (.string n.ta) (.string n.tb) (.slice vo n.kids.length vc))
          have HV := Lib.hid (Gr.NodeS.below hv (new1 y (.cells #[.int .i64 n.kind, .string n.ta, .string n.tb, .slice vo n.kids.length vc] tNd)))
          have HN := Lib.hid (show repsT (nodeT lim1 d') (j + 1) (l.drop (a + b + c + q)) = some (xs ++ [n], l.drop (pos + k)) ∧ pos + k ≤ l.length ∧ 1 ≤ k from by
            rw [List.length_drop] at hk2
            refine ⟨?_, by omega, hk1⟩
            rw [reps_snoc j HJ.out.1 hn, ← hk3, List.drop_drop])
          have HBs := Lib.hid (And.intro (HJ.out.2.2.1.trans (hbx.mono HJ.out.2.2.1.size)) (And.intro (HJ.out.2.2.2.1.on hbx) (And.intro (HJ.out.2.2.2.2.1.on hbx) (And.intro (HJ.out.2.2.2.2.2.below hbx) hbx.size))))
          have ek : ((k : Int) == 0) = false := by simp; omega
          clear hsl HSc hn hk1 hk2 hk3 hv hby hbx
          go_upto_region 17 with fail
          generalize y.alloc (.cells #[.int .i64 n.kind, .string n.ta, .string n.tb, .slice vo n.kids.length vc] tNd) = Y at *
          generalize y.heap.size = RX at *
          have al := new1 Y (.cells #[.int .i64 n.kind, .string n.ta, .string n.tb, .slice vo n.kids.length vc] tNd)
          have hlw := HJ.out.2.2.2.2.1.lt
          have hue : NodeS (fun g => wr.heap.size ≤ g ∧ ¬ False) (Y.alloc (.cells #[.int .i64 n.kind, .string n.ta, .string n.tb, .slice vo n.kids.length vc] tNd)) n (node4 n.kind n.ta n.tb (.slice vo n.kids.length vc)) := (Gr.NodeS.below HV.out al).turn (Turns.refl (fun _ => False) _) (fun _ _ _ h => h) fun g hg _ => ⟨hg, fun h => h⟩
          have HA := Lib.hid (And.intro (HBs.out.2.2.2.1.below al) (And.intro (heap_alloc_new Y (.cells #[.int .i64 n.kind, .string n.ta, .string n.tb, .slice vo n.kids.length vc] tNd)) (And.intro hue (And.intro (show w.heap.size + 2 ≤ wr.heap.size by omega) (And.intro (show ∀ k, Value.ownBlock (.slice ro xs.length rc) = some k → k < wr.heap.size from fun k hk => (HJ.out.2.2.2.2.2.own_lt hk).2) (And.intro (show w.heap.size + 2 ≤ (Y.alloc (.cells #[.int .i64 n.kind, .string n.ta, .string n.tb, .slice vo n.kids.length vc] tNd)).heap.size from by have := HBs.out.2.2.2.2; have := al.size; omega) (And.intro (show xs.length ≤ 100000 by have := HJ.out.2.1; have := HLn.out.2; omega) (And.intro (HBs.out.2.2.1.on al) (And.intro (HBs.out.2.1.on al) (HBs.out.1.trans (al.mono HBs.out.1.size)))))))))))
          obtain ⟨ti, tz, tb, TE, hT⟩ := elN
          have HTE := Lib.hid (And.intro TE hT)
          obtain ⟨x0, x1, x2, x3⟩ := HX.out.cells
          obtain ⟨-, -, -, k3⟩ := HBs.out.2.2.1.cells
          clear al hlw hue TE hT ek HBs HV
          go_wp2_with (at_builtin; refine walk_add (u := node4 n.kind n.ta n.tb (.slice vo n.kids.length vc)) HTE.out.1 HTE.out.2 rfl _ _ rfl rfl rfl HA.out.1 HA.out.2.1 HA.out.2.2.1 HA.out.2.2.2.1 HA.out.2.2.2.2.1 HA.out.2.2.2.2.2.1 (fun _ _ h => h) HA.out.2.2.2.2.2.2.1 ?_)
          intro v' y' hrow' htn
          obtain ⟨ro2, rc2, ev⟩ := hrow'.slice
          rw [List.length_append, List.length_singleton] at ev
          subst ev
          have hne : ∀ g, g < w.heap.size + 2 → ¬ Value.ownBlock (.slice ro xs.length rc) = some g := fun g hg h => by
            have := (HA.out.1.own_lt h).1
            omega
          have B1 := HA.out.2.2.2.2.2.2.2.1.turn htn (hne _ (by omega))
          have B0 := HA.out.2.2.2.2.2.2.2.2.1.turn htn (hne _ (by omega))
          have hbl := HA.out.2.2.2.2.2.2.2.2.2.trans (htn.below HA.out.2.2.2.2.2.2.2.2.2.size fun g hg => by have := (HA.out.1.own_lt hg).1; omega)
          have t1 : Turns (fun g => g = w.heap.size + 1) y' (y'.setCell ⟨w.heap.size + 1, 3, none⟩ (.slice ro2 (xs.length + 1) rc2)) := (Turns.refl (fun g => g = w.heap.size + 1) y').setCell (p := ⟨w.heap.size + 1, 3, none⟩) rfl _
          have HF := Lib.hid (And.intro (hbl.trans (t1.below hbl.size fun g hg => by omega)) (And.intro (B0.turn t1 (by omega)) (And.intro (show C4 (w.heap.size + 1) tNd (.int .i64 (kk : Nat)) (.string one) (.string two) (.slice ro2 (xs.length + 1) rc2) (y'.setCell ⟨w.heap.size + 1, 3, none⟩ (.slice ro2 (xs.length + 1) rc2)) from Lib.heap_setCell_same (i := 3) B1 _) (hrow'.turn t1 fun g h1 _ h2 => by omega))))
          clear k3
          obtain ⟨-, -, -, k3⟩ := B1.cells
          obtain ⟨-, -, -, f3⟩ := B1.free
          have HJl := Lib.hid HJ.out.2.1
          have hpk : pos + k ≤ l.length := HN.out.2.1
          clear hrow' htn hne B0 B1 hbl t1 HA HTE HX x0 x1 x2 x3 HJ
          go_wp2_with fail
          clear k3 f3
          generalize y'.setCell ⟨w.heap.size + 1, 3, none⟩ (.slice ro2 (xs.length + 1) rc2) = F at *
          go_roundw
          case rel => exact ⟨j + 1, pos + k, xs ++ [n], _, by go_num, by go_num, by omega, HN.out.2.1, by have := HN.out.2.2; omega, Lib.hid ⟨HN.out.1, by rw [List.length_append, HJl.out]; rfl, HF.out.1, HF.out.2.1, HF.out.2.2.1, HF.out.2.2.2⟩⟩
          case measure => simp [intOf]; omega
      · have hj' : j = count := by omega
        subst hj'
        obtain ⟨ro, rc, rfl⟩ := HJ.out.2.2.2.2.2.slice
        have HRow := Lib.hid HJ.out.2.2.2.2.2
        have HNode := Lib.hid (show nodeT lim1 (d' + 1) l = some (.mk (kk : Nat) one two xs, l.drop pos) from by rw [HQ.out, HJ.out.1])
        obtain ⟨f0, f1, f2, f3⟩ := HJ.out.2.2.2.1.free
        obtain ⟨g0, g1, g2, g3⟩ := HJ.out.2.2.2.1.cells
        obtain ⟨k0, k1, k2, k3⟩ := HJ.out.2.2.2.2.1.cells
        have t1 : Turns (fun g => g = w.heap.size) wr ((((wr.setCell ⟨w.heap.size, 0, none⟩ (.int .i64 (kk : Nat))).setCell ⟨w.heap.size, 1, none⟩ (.string one)).setCell ⟨w.heap.size, 2, none⟩ (.string two)).setCell ⟨w.heap.size, 3, none⟩ (.slice ro xs.length rc)) := (((((Turns.refl (fun g => g = w.heap.size) wr).setCell (p := ⟨w.heap.size, 0, none⟩) rfl (.int .i64 (kk : Nat))).setCell (p := ⟨w.heap.size, 1, none⟩) rfl (.string one)).setCell (p := ⟨w.heap.size, 2, none⟩) rfl (.string two)).setCell (p := ⟨w.heap.size, 3, none⟩) rfl (.slice ro xs.length rc))
        have HF := Lib.hid (And.intro (show C4 (w.heap.size) tNd (.int .i64 (kk : Nat)) (.string one) (.string two) (.slice ro xs.length rc) ((((wr.setCell ⟨w.heap.size, 0, none⟩ (.int .i64 (kk : Nat))).setCell ⟨w.heap.size, 1, none⟩ (.string one)).setCell ⟨w.heap.size, 2, none⟩ (.string two)).setCell ⟨w.heap.size, 3, none⟩ (.slice ro xs.length rc)) from (Lib.heap_setCell_same (i := 3) (Lib.heap_setCell_same (i := 2) (Lib.heap_setCell_same (i := 1) (Lib.heap_setCell_same (i := 0) HJ.out.2.2.2.1 (.int .i64 (kk : Nat))) (.string one)) (.string two)) (.slice ro xs.length rc))) (And.intro (HJ.out.2.2.1.trans (t1.below HJ.out.2.2.1.size fun k hk => by omega)) (HRow.out.turn t1 fun g h1 _ h2 => by omega)))
        clear t1
        go_wp2_with fail
        clear f0 f1 f2 f3 g0 g1 g2 g3 k0 k1 k2 k3
        generalize ((((wr.setCell ⟨w.heap.size, 0, none⟩ (.int .i64 (kk : Nat))).setCell ⟨w.heap.size, 1, none⟩ (.string one)).setCell ⟨w.heap.size, 2, none⟩ (.string two)).setCell ⟨w.heap.size, 3, none⟩ (.slice ro xs.length rc)) = F at *
        obtain ⟨g0, g1, g2, g3⟩ := HF.out.1.cells
        refine bodyPost_ret (v := .tuple #[node4 (kk : Nat) one two (.slice ro xs.length rc), .int .i64 pos]) (by simp [results, Tryd.results30, go_sem, g0, g1, g2, g3, node4]) rfl ⟨HF.out.2.1, .inr ⟨_, l.drop pos, pos, _, HNode.out, ⟨by omega, by rw [List.length_drop]; omega, rfl⟩, rfl, ?_⟩⟩
        exact node_of HShort.out.1 HShort.out.2 HF.out.2.2.rows (by omega)
theorem dnode_any : ∀ d, d ≤ 8 → DN d
  | 0, _ => dnode_step 0 (by omega) fun d' e => by omega
  | d + 1, h => dnode_step (d + 1) h fun d' e => by
    obtain rfl : d = d' := by omega
    exact dnode_any d (by omega)
end Ck
end Go.Proofs.YtopncohhagebbaaDoor
