/-
  The document's answers in this program: Unquote, its loops.
-/
import Derived.Test.YtldfobciojmlnaaDoorUnqRefB
namespace Go.Proofs.YtldfobciojmlnaaDoor
open Go.RowKit
namespace Ref

theorem own_keep {w w' : World} {B : Nat} {e : TypeId} {v : Value} {n : Nat} {xs : List Value} (h : w.ownsRow B e 1 v n xs) (hb : Below w.heap.size w w') : w'.ownsRow B e 1 v n xs := by
  refine ⟨h.1, ?_⟩
  rcases h.2 with h0 | ⟨g, cap, cur, hv, hBg, hg, rest⟩
  · exact .inl h0
  · exact .inr ⟨g, cap, cur, hv, hBg, (hb.block g (Bld.lt_of_heap hg)).trans hg, rest⟩

theorem byte_len {s : ByteArray} {p : Nat} {k : Nat} (h : p + k < s.size) : Gly.byte (s.data.toList.drop p) k = (s[p + k]).toNat := byte_at h

theorem cells_new (w : World) (L : List UInt8) (j : Nat) (u : Value) (hj : (Lib.byteCells L)[j]? = some u) : (w.alloc (Obj.cells (Lib.byteCells L).toArray 5)).cell? ((⟨w.heap.size, 0, none⟩ : Addr).add j) = some u := by
  rw [show (⟨w.heap.size, 0, none⟩ : Addr).add j = ⟨w.heap.size, j, none⟩ by simp only [Addr.add, Nat.zero_add]; split <;> simp_all]
  rw [World.cell?_alloc_new]
  simpa using hj

set_option maxHeartbeats 8000000 in
set_option maxRecDepth 100000 in
theorem unquote_in (s M : ByteArray) (X : Option (List UInt8)) (w : World) (h2 : 2 ≤ s.size) (hs : s.size ≤ 100000) (h0 : (s[0]).toNat = 34) (h1 : (s[s.size - 1]).toNat = 34)
    (hM : M = s.extract 1 (s.size - 1)) (hXn : Gly.unescR M.data.toList = none → X = none) (hXs : ∀ t, Gly.unescR M.data.toList = some t → X = if Gly.quote t = s.data.toList then some t else none) :
    Calls Tryd.prog 22 #[.string s] w fun e w' => e = .returned (unqRV X) ∧ Below w.heap.size w w' := by
  obtain ⟨i0, hi, hz0, hz1, hz2⟩ := info_parts Bld.infoByte
  have e0 : (((s[0]).toNat : Int) != 34) = false := by simp; omega
  have e1 : (((s[s.size - 1]).toNat : Int) != 34) = false := by simp; omega
  have hn : ((s.size : Int) - 1).toNat = s.size - 1 := by omega
  have hMs : M.size ≤ 100000 := by rw [hM, ByteArray.size_extract]; omega
  have hsl : ∀ W, (Instr.slice 9 (.string s) (some (.int .i64 1)) (some (.int .i64 ((s.size : Int) - 1))) none).run Tryd.prog W = .ok (.string M) W := fun W => by
    rw [run_slice_string W 9 s .i64 .i64 _ _ Tryd.underlying9 (by omega) (by omega) (by omega), hn, hM]
    rfl
  have HXN := Lib.hid hXn
  have HXS := Lib.hid hXs
  clear hXn hXs hM
  go_enter Tryd.func22, Tryd.ntmps22
  go_wp2
  go_loopw [5, 6] (fun vo va wr => ∃ (p : Nat) (acc : List UInt8), va = .int .i64 p ∧ wr.ownsRow w.heap.size 5 1 vo acc.length (Lib.byteCells acc) ∧ Below w.heap.size w wr ∧ Hid ((Gly.unescR (M.data.toList.drop p)).map (acc ++ ·) = Gly.unescR M.data.toList) ∧ acc.length ≤ p ∧ p ≤ M.size) (fun _ va _ => M.size - (intOf va).toNat)
  case atStart => exact ⟨0, [], rfl, World.ownsRow_nil _ _ _ _, Below.refl _ _, Lib.hid (by simp), by simp, by omega⟩
  case round =>
    obtain ⟨p, acc, rfl, hown, hbw, HS, hal, hps⟩ := hrel
    have hsz := hbw.size
    by_cases hp : p < M.size
    · have hne := Gl.drop_ne hp
      have hb0 := byte_at0 hp
      by_cases hc : (M[p]).toNat = 92
      · have c92 : (((M[p]).toNat : Int) != 92) = false := by simp; omega
        have hx1 : ((p : Int) + 1).toNat = p + 1 := by omega
        have hx2 : ((p : Int) + 2).toNat = p + 2 := by omega
        have hlen := len_drop M p
        have hnone : Gly.escR (M.data.toList.drop p) = none → X = none := fun h => HXN.out (by rw [← HS.out, Gly.unescR_none hne (by omega) h]; rfl)
        by_cases hl2 : M.size - p ≤ 2
        · obtain rfl := hnone (by rw [Gly.escR, if_pos (.inl (by omega))])
          clear hnone HXN HXS HS hne hb0
          have hl2' : (M.size : Int) - 2 ≤ p := by omega
          go_wp2
          go_ret2
          exact ⟨rfl, hbw⟩
        · have hb1 := byte_len (s := M) (p := p) (k := 1) (by omega)
          have hb2 := byte_len (s := M) (p := p) (k := 2) (by omega)
          by_cases hq : (M[p + 1]).toNat = 117 ∨ (M[p + 1]).toNat = 120
          · by_cases hbr : (M[p + 2]).toNat = 123
            · have cbr : (((M[p + 2]).toNat : Int) != 123) = false := by simp; omega
              have hx3 : ((p : Int) + 3).toNat = p + 3 := by omega
              have hesc : Gly.escR (M.data.toList.drop p) = match Gly.hexR 0 (M.data.toList.drop (p + 3)) with
                  | none => none
                  | some x => if M.size - p ≤ 3 + x.2 ∨ x.2 = 0 ∨ 1114111 < x.1 ∨ ((M[p + 1]).toNat = 120 ∧ 255 < x.1) then none
                    else some (if (M[p + 1]).toNat = 120 then [x.1.toUInt8] else Gly.formL x.1, 3 + x.2) := by
                rw [Gly.escR, if_neg (by omega), List.drop_drop, hb1, hlen]
                rfl
              have hez : Gly.hexR 0 (M.data.toList.drop (p + 3)) = none → X = none := fun h => hnone (by rw [hesc, h])
              have hen : ∀ n k, Gly.hexR 0 (M.data.toList.drop (p + 3)) = some (n, k) → (M.size - p ≤ 3 + k ∨ k = 0 ∨ 1114111 < n ∨ ((M[p + 1]).toNat = 120 ∧ 255 < n)) → X = none :=
                fun n k h hh => hnone (by rw [hesc, h]; exact if_pos hh)
              have hgo : ∀ n k, Gly.hexR 0 (M.data.toList.drop (p + 3)) = some (n, k) → ¬ (M.size - p ≤ 3 + k ∨ k = 0 ∨ 1114111 < n ∨ ((M[p + 1]).toNat = 120 ∧ 255 < n)) →
                  (Gly.unescR (M.data.toList.drop (p + (3 + k + 1)))).map (fun t => acc ++ ((if (M[p + 1]).toNat = 120 then [n.toUInt8] else Gly.formL n) ++ t)) = Gly.unescR M.data.toList := fun n k h hh => by
                have he : Gly.escR (M.data.toList.drop p) = some (if (M[p + 1]).toNat = 120 then [n.toUInt8] else Gly.formL n, 3 + k) := by rw [hesc, h]; exact if_neg hh
                rw [← HS.out, Gly.unescR_esc hne (by omega) he, Option.map_map, List.drop_drop]
                rfl
              have HEZ := Lib.hid hez
              have HEN := Lib.hid hen
              have HES := Lib.hid hgo
              clear hez hen hgo hesc hnone hb0 hb1 hb2 hne
              rcases hq with hq | hq
              · have cq : (((M[p + 1]).toNat : Int) != 117) = false := by simp; omega
                have cx : (((M[p + 1]).toNat : Int) == 120) = false := by simp; omega
                go_wp2
                obtain ⟨wo, rfl⟩ : ∃ wo : World, wo = wr := ⟨_, rfl⟩
                go_loopw [7, 8] (fun vn ve wi => ∃ (n e : Nat), vn = .int .i64 n ∧ ve = .int .i64 e ∧ wi = wo ∧ Hid ((Gly.hexR n (M.data.toList.drop e)).map (fun x => (x.1, x.2 + (e - (p + 3)))) = Gly.hexR 0 (M.data.toList.drop (p + 3))) ∧ n ≤ 20000000 ∧ p + 3 ≤ e ∧ e ≤ M.size) (fun _ ve _ => M.size - (intOf ve).toNat)
                case atStart => exact ⟨0, p + 3, rfl, by go_num, rfl, Lib.hid (by simp), by omega, by omega, by omega⟩
                case round =>
                  obtain ⟨n, e, rfl, rfl, rfl, HX, hn2, hpe, hes⟩ := hrel
                  by_cases he : e < M.size
                  · have hne2 := Gl.drop_ne he
                    have hbe := byte_at0 he
                    by_cases h125 : (M[e]).toNat = 125
                    · have hx := HX.out
                      rw [Gly.hexR_end hne2 (by omega), Option.map_some, Nat.zero_add] at hx
                      have c125 : (((M[e]).toNat : Int) != 125) = false := by simp; omega
                      by_cases hk0 : e = p + 3
                      · obtain rfl := HEN.out n (e - (p + 3)) hx.symm (.inr (.inl (by omega)))
                        have ck0 : ((e : Int) == (p : Int) + 3) = true := by simp; omega
                        have c125b := c125
                        simp only [hk0] at c125b
                        clear HEN HES HXN HXS HEZ HS HX hx hne2 hbe
                        go_wp2
                        go_ret2
                        exact ⟨rfl, hbw⟩
                      · have ck0 : ((e : Int) == (p : Int) + 3) = false := by simp; omega
                        by_cases hbig : 1114111 < n
                        · obtain rfl := HEN.out n (e - (p + 3)) hx.symm (.inr (.inr (.inl hbig)))
                          clear HEN HES HXN HXS HEZ HS HX hx hne2 hbe
                          go_wp2
                          go_ret2
                          exact ⟨rfl, hbw⟩
                        · have hg := HES.out n (e - (p + 3)) hx.symm (by omega)
                          rw [if_neg (by omega), show p + (3 + (e - (p + 3)) + 1) = e + 1 by omega] at hg
                          have HG := Lib.hid hg
                          have hfl := Gly.formL_len n
                          have HF := Lib.hid (fun W => form_any n (by omega) W)
                          clear HEN HES HXN HXS HEZ HS HX hx hne2 hbe hg
                          generalize Gly.formL n = L at HF HG hfl
                          go_wp2_with (first
                            | (go_at_call 43; refine (HF.out _).mono ?_; rintro e w' ⟨rfl, rfl⟩)
                            | (at_builtin; refine wpList_append_own _ rfl _ _ 48 rfl w.heap.size 5 i0 (.int .u8 0) 1 1 Tryd.underlying48 hi hz0 hz1 hz2 rfl (by decide) _ _ _ rfl (hown.alloc _) ⟨wr.heap.size, 0, none⟩ L.length L.length (Lib.byteCells L) rfl (by rw [Lib.byteCells_length, Nat.mul_one]) ?c1 ?c2 ?c3 ?c4 ?c5 ?_))
                          case c1 =>
                            intro j u hj
                            exact cells_new _ L j u hj
                          case c2 =>
                            intro u hu
                            obtain ⟨b, _, rfl⟩ := List.mem_map.1 hu
                            rfl
                          case c3 => unfold maxLen; omega
                          case c4 => omega
                          case c5 => simp; omega
                          intro v' w3 hown' hgrow3 _
                          have hown3 : w3.ownsRow w.heap.size 5 1 v' (acc ++ L).length (Lib.byteCells (acc ++ L)) := by
                            rw [Lib.byteCells_append, List.length_append]; exact hown'
                          have hbw3 : Below w.heap.size w w3 := Below.grown (hbw.alloc (by omega) _) hgrow3 (by simp; omega) (fun j hj => (hown.lt _ hj).1)
                          clear hown' hgrow3 hown hbw
                          go_wp2
                          go_roundw
                          case rel => exact ⟨e + 1, _, by go_num, hown3, hbw3, Lib.hid (by rw [← HG.out]; simp), by simp; omega, by omega⟩
                          case measure => simp [intOf]; omega
                    · have c125 : (((M[e]).toNat : Int) != 125) = true := by simp; omega
                      have hx := HX.out
                      rw [Gly.hexR_step hne2 (by omega), hbe] at hx
                      have hdg := fun W => dig_any (M[e]).toNat (M[e]).toNat_lt W
                      cases hd : Gly.hv (M[e]).toNat with
                      | none =>
                        rw [hd] at hx
                        rw [hd, show digZ none = -1 from rfl] at hdg
                        obtain rfl := HEZ.out hx.symm
                        have HD := Lib.hid hdg
                        clear HEN HES HXN HXS HEZ HS HX hx hne2 hbe hdg hd
                        go_wp2_with (go_at_call 42; refine (HD.out _).mono ?_; rintro e w' ⟨rfl, rfl⟩)
                        go_ret2
                        exact ⟨rfl, hbw⟩
                      | some d =>
                        have hd15 : d ≤ 15 := by rcases Gly.hv_some hd with h | h <;> omega
                        rw [hd] at hx
                        rw [hd, show digZ (some d) = (d : Int) from rfl] at hdg
                        simp only at hx
                        have HD := Lib.hid hdg
                        by_cases hbig : 1114111 < n
                        · rw [if_pos hbig] at hx
                          obtain rfl := HEZ.out hx.symm
                          clear HEN HES HXN HXS HEZ HS HX hx hne2 hbe hdg hd
                          go_wp2_with (go_at_call 42; refine (HD.out _).mono ?_; rintro e w' ⟨rfl, rfl⟩)
                          go_ret2
                          exact ⟨rfl, hbw⟩
                        · rw [if_neg hbig, List.drop_drop, Option.map_map] at hx
                          have HX2 := Lib.hid hx
                          clear HX hx hne2 hbe hdg hd
                          go_wp2_with (go_at_call 42; refine (HD.out _).mono ?_; rintro e w' ⟨rfl, rfl⟩)
                          go_roundw
                          case rel => exact ⟨n * 16 + d, e + 1, by go_num, by go_num, trivial, Lib.hid (by rw [← HX2.out]; congr 1; funext x; simp; omega), by omega, by omega, by omega⟩
                          case measure => simp [intOf]; omega
                  · have hx := HX.out
                    rw [Gl.drop_end he, Gly.hexR_nil, Option.map_some, Nat.zero_add] at hx
                    obtain rfl := HEN.out n (e - (p + 3)) hx.symm (.inl (by omega))
                    clear HEN HES HXN HXS HEZ HS HX hx
                    go_wp2
                    go_ret2
                    exact ⟨rfl, hbw⟩
              · have cq : (((M[p + 1]).toNat : Int) != 117) = true := by simp; omega
                have cq2 : (((M[p + 1]).toNat : Int) != 120) = false := by simp; omega
                have cx : (((M[p + 1]).toNat : Int) == 120) = true := by simp; omega
                go_wp2
                obtain ⟨wo, rfl⟩ : ∃ wo : World, wo = wr := ⟨_, rfl⟩
                go_loopw [7, 8] (fun vn ve wi => ∃ (n e : Nat), vn = .int .i64 n ∧ ve = .int .i64 e ∧ wi = wo ∧ Hid ((Gly.hexR n (M.data.toList.drop e)).map (fun x => (x.1, x.2 + (e - (p + 3)))) = Gly.hexR 0 (M.data.toList.drop (p + 3))) ∧ n ≤ 20000000 ∧ p + 3 ≤ e ∧ e ≤ M.size) (fun _ ve _ => M.size - (intOf ve).toNat)
                case atStart => exact ⟨0, p + 3, rfl, by go_num, rfl, Lib.hid (by simp), by omega, by omega, by omega⟩
                case round =>
                  obtain ⟨n, e, rfl, rfl, rfl, HX, hn2, hpe, hes⟩ := hrel
                  by_cases he : e < M.size
                  · have hne2 := Gl.drop_ne he
                    have hbe := byte_at0 he
                    by_cases h125 : (M[e]).toNat = 125
                    · have hx := HX.out
                      rw [Gly.hexR_end hne2 (by omega), Option.map_some, Nat.zero_add] at hx
                      have c125 : (((M[e]).toNat : Int) != 125) = false := by simp; omega
                      by_cases hk0 : e = p + 3
                      · obtain rfl := HEN.out n (e - (p + 3)) hx.symm (.inr (.inl (by omega)))
                        have ck0 : ((e : Int) == (p : Int) + 3) = true := by simp; omega
                        have c125b := c125
                        simp only [hk0] at c125b
                        clear HEN HES HXN HXS HEZ HS HX hx hne2 hbe
                        go_wp2
                        go_ret2
                        exact ⟨rfl, hbw⟩
                      · have ck0 : ((e : Int) == (p : Int) + 3) = false := by simp; omega
                        by_cases hbig : 1114111 < n
                        · obtain rfl := HEN.out n (e - (p + 3)) hx.symm (.inr (.inr (.inl hbig)))
                          clear HEN HES HXN HXS HEZ HS HX hx hne2 hbe
                          go_wp2
                          go_ret2
                          exact ⟨rfl, hbw⟩
                        · by_cases h255 : 255 < n
                          · obtain rfl := HEN.out n (e - (p + 3)) hx.symm (.inr (.inr (.inr ⟨hq, h255⟩)))
                            clear HEN HES HXN HXS HEZ HS HX hx hne2 hbe
                            go_wp2
                            go_ret2
                            exact ⟨rfl, hbw⟩
                          · have hg := HES.out n (e - (p + 3)) hx.symm (by omega)
                            rw [if_pos hq, show p + (3 + (e - (p + 3)) + 1) = e + 1 by omega] at hg
                            have HG := Lib.hid hg
                            have hbd := one_build
                            have hu8 := u8nat n (by omega)
                            have HU := Lib.hid hu8
                            clear HEN HES HXN HXS HEZ HS HX hx hne2 hbe hg hu8
                            go_wp2_with (at_builtin; refine wpList_append_own _ rfl _ _ 48 rfl w.heap.size 5 i0 (.int .u8 0) 1 1 Tryd.underlying48 hi hz0 hz1 hz2 rfl (by decide) _ _ _ rfl (hown.alloc _) ⟨wr.heap.size, 0, none⟩ 1 1 [.int .u8 (n : Int)] rfl rfl ?c1 ?c2 ?c3 ?c4 ?c5 ?_)
                            case c1 =>
                              intro j u hj
                              match j, hj with
                              | 0, hj => simp at hj; subst hj; simp [Addr.add]
                            case c2 => intro u hu; simp at hu; subst hu; rfl
                            case c3 => unfold maxLen; omega
                            case c4 => omega
                            case c5 => simp; omega
                            intro v' w3 hown' hgrow3 _
                            have hown3 : w3.ownsRow w.heap.size 5 1 v' (acc ++ [n.toUInt8]).length (Lib.byteCells (acc ++ [n.toUInt8])) := by
                              rw [Lib.byteCells_append, List.length_append, show Lib.byteCells [n.toUInt8] = [Value.int .u8 (n : Int)] by rw [← HU.out]; simp [Lib.byteCells]]; exact hown'
                            have hbw3 : Below w.heap.size w w3 := Below.grown (hbw.alloc (by omega) _) hgrow3 (by simp; omega) (fun j hj => (hown.lt _ hj).1)
                            clear hown' hgrow3 hown hbw
                            go_wp2
                            go_roundw
                            case rel => exact ⟨e + 1, _, by go_num, hown3, hbw3, Lib.hid (by rw [← HG.out]; simp), by simp; omega, by omega⟩
                            case measure => simp [intOf]; omega
                    · have c125 : (((M[e]).toNat : Int) != 125) = true := by simp; omega
                      have hx := HX.out
                      rw [Gly.hexR_step hne2 (by omega), hbe] at hx
                      have hdg := fun W => dig_any (M[e]).toNat (M[e]).toNat_lt W
                      cases hd : Gly.hv (M[e]).toNat with
                      | none =>
                        rw [hd] at hx
                        rw [hd, show digZ none = -1 from rfl] at hdg
                        obtain rfl := HEZ.out hx.symm
                        have HD := Lib.hid hdg
                        clear HEN HES HXN HXS HEZ HS HX hx hne2 hbe hdg hd
                        go_wp2_with (go_at_call 42; refine (HD.out _).mono ?_; rintro e w' ⟨rfl, rfl⟩)
                        go_ret2
                        exact ⟨rfl, hbw⟩
                      | some d =>
                        have hd15 : d ≤ 15 := by rcases Gly.hv_some hd with h | h <;> omega
                        rw [hd] at hx
                        rw [hd, show digZ (some d) = (d : Int) from rfl] at hdg
                        simp only at hx
                        have HD := Lib.hid hdg
                        by_cases hbig : 1114111 < n
                        · rw [if_pos hbig] at hx
                          obtain rfl := HEZ.out hx.symm
                          clear HEN HES HXN HXS HEZ HS HX hx hne2 hbe hdg hd
                          go_wp2_with (go_at_call 42; refine (HD.out _).mono ?_; rintro e w' ⟨rfl, rfl⟩)
                          go_ret2
                          exact ⟨rfl, hbw⟩
                        · rw [if_neg hbig, List.drop_drop, Option.map_map] at hx
                          have HX2 := Lib.hid hx
                          clear HX hx hne2 hbe hdg hd
                          go_wp2_with (go_at_call 42; refine (HD.out _).mono ?_; rintro e w' ⟨rfl, rfl⟩)
                          go_roundw
                          case rel => exact ⟨n * 16 + d, e + 1, by go_num, by go_num, trivial, Lib.hid (by rw [← HX2.out]; congr 1; funext x; simp; omega), by omega, by omega, by omega⟩
                          case measure => simp [intOf]; omega
                  · have hx := HX.out
                    rw [Gl.drop_end he, Gly.hexR_nil, Option.map_some, Nat.zero_add] at hx
                    obtain rfl := HEN.out n (e - (p + 3)) hx.symm (.inl (by omega))
                    clear HEN HES HXN HXS HEZ HS HX hx
                    go_wp2
                    go_ret2
                    exact ⟨rfl, hbw⟩
            · obtain rfl := hnone (by rw [Gly.escR, if_pos (.inr (.inr (by omega)))])
              have cbr : (((M[p + 2]).toNat : Int) != 123) = true := by simp; omega
              clear hnone HXN HXS HS hne hb0 hb1 hb2
              rcases hq with hq | hq
              · have cq : (((M[p + 1]).toNat : Int) != 117) = false := by simp; omega
                go_wp2
                go_ret2
                exact ⟨rfl, hbw⟩
              · have cq : (((M[p + 1]).toNat : Int) != 117) = true := by simp; omega
                have cq2 : (((M[p + 1]).toNat : Int) != 120) = false := by simp; omega
                go_wp2
                go_ret2
                exact ⟨rfl, hbw⟩
          · obtain rfl := hnone (by rw [Gly.escR, if_pos (.inr (.inl (by omega)))])
            have cq : (((M[p + 1]).toNat : Int) != 117) = true := by simp; omega
            have cq2 : (((M[p + 1]).toNat : Int) != 120) = true := by simp; omega
            clear hnone HXN HXS HS hne hb0 hb1 hb2
            go_wp2
            go_ret2
            exact ⟨rfl, hbw⟩
      · have c92 : (((M[p]).toNat : Int) != 92) = true := by simp; omega
        have hr := HS.out
        rw [Gly.unescR_byte hne (by rw [hb0]; exact hc), Option.map_map, List.drop_drop] at hr
        have hgd : (M.data.toList.drop p).getD 0 0 = M[p] := UInt8.toNat_inj.1 hb0
        rw [hgd] at hr
        have HR := Lib.hid hr
        have hbd := one_build
        clear hr HS hne hb0 hgd
        go_wp2_with (at_builtin; refine wpList_append_own _ rfl _ _ 48 rfl w.heap.size 5 i0 (.int .u8 0) 1 1 Tryd.underlying48 hi hz0 hz1 hz2 rfl (by decide) _ _ _ rfl (hown.alloc _) ⟨wr.heap.size, 0, none⟩ 1 1 [.int .u8 ((M[p]).toNat : Int)] rfl rfl ?c1 ?c2 ?c3 ?c4 ?c5 ?_)
        case c1 =>
          intro j u hj
          match j, hj with
          | 0, hj => simp at hj; subst hj; simp [Addr.add]
        case c2 => intro u hu; simp at hu; subst hu; rfl
        case c3 => unfold maxLen; omega
        case c4 => omega
        case c5 => simp; omega
        intro v' w3 hown' hgrow3 _
        have hown3 : w3.ownsRow w.heap.size 5 1 v' (acc ++ [M[p]]).length (Lib.byteCells (acc ++ [M[p]])) := by
          rw [Lib.byteCells_append, List.length_append]; exact hown'
        have hbw3 : Below w.heap.size w w3 := Below.grown (hbw.alloc (by omega) _) hgrow3 (by simp; omega) (fun j hj => (hown.lt _ hj).1)
        clear hown' hgrow3 hown hbw
        go_wp2
        go_roundw
        case rel => exact ⟨p + 1, _, by go_num, hown3, hbw3, Lib.hid (by rw [← HR.out]; simp [Function.comp_def]), by simp; omega, by omega⟩
        case measure => simp [intOf]; omega
    · have hr := HS.out
      rw [Gl.drop_end hp, Gly.unescR_nil, Option.map_some, List.append_nil] at hr
      have hX := HXS.out acc hr.symm
      have hrs := row_string hown
      have hqt := fun W => quote_any ⟨acc.toArray⟩ W (by rw [Lib.size_eq]; simp; omega)
      rw [show ((⟨acc.toArray⟩ : ByteArray).data.toList) = acc from rfl] at hqt
      by_cases he : Gly.quote acc = s.data.toList
      · rw [if_pos he] at hX
        subst hX
        have hes : (⟨(Gly.quote acc).toArray⟩ : ByteArray) = s := by
          apply ByteArray.ext; apply Array.ext'; rw [he]
        rw [hes] at hqt
        have HQ := Lib.hid hqt
        clear hqt hr HXN HXS HS he hes
        go_wp2_with (go_at_call 21; refine (HQ.out _).mono ?_)
        rintro e w3 ⟨rfl, b3⟩
        have hrs3 := row_string (own_keep hown b3)
        go_wp2
        go_ret2
        exact ⟨rfl, hbw.trans (b3.mono hsz)⟩
      · rw [if_neg he] at hX
        subst hX
        have hes : (⟨(Gly.quote acc).toArray⟩ : ByteArray) ≠ s := by
          intro h; apply he; rw [← h]
        generalize (⟨(Gly.quote acc).toArray⟩ : ByteArray) = Z at hqt hes
        have hzs : (Z.toList == s.toList) = false := by
          rw [ByteArray.toList_eq, ByteArray.toList_eq, beq_eq_false_iff_ne]
          exact fun h => hes (ByteArray.ext (Array.ext' h))
        have HQ := Lib.hid hqt
        clear hqt hr HXN HXS HS he hes
        go_wp2_with (go_at_call 21; refine (HQ.out _).mono ?_)
        rintro e w3 ⟨rfl, b3⟩
        go_wp2
        go_ret2
        exact ⟨rfl, hbw.trans (b3.mono hsz)⟩
end Ref
end Go.Proofs.YtldfobciojmlnaaDoor
