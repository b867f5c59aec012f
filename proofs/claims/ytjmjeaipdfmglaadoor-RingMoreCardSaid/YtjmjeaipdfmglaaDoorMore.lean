/-
  RingMore: with a node less a key's owner stays, or the next one of its walk comes: the law returns true for every input.
-/
import Derived.Test.YtjmjeaipdfmglaaDoorKit
import Derived.Test.YtjmjeaipdfmglaaDoorCards
import Derived.Test.YtjmjeaipdfmglaaDoorTie
namespace Go.Proofs.YtjmjeaipdfmglaaDoor.lawMore
open Go.ChangeMaps (open_string)
open Go.Sort Go.ChangeShapes Go.WideShapes Go.ChangeAt Go.RowKit Go.Joins Go.Proofs.YtjmjeaipdfmglaaDoor.Pure

set_option maxRecDepth 100000 in
set_option maxHeartbeats 4000000 in
theorem walk (A : Option Addr) (c : Nat) (xs0 : List Int) (sp gn : Nat) (key : ByteArray) (w : World) (hc : xs0.length ≤ c) (hm : c ≤ maxLen) (hx : Has w 0 w.heap.size A xs0) (hsp : sp ≤ 255) (hgn : gn ≤ 255) (hk : key.size ≤ maxLen) :
    Calls Tryd.prog 4 #[.agg #[.slice A xs0.length c, .int .u8 (sp : Int), .int .u8 (gn : Int), .string key]] w fun e w' => e = .returned (.bool true) ∧ Below w.heap.size w w' := by
  obtain ⟨xs, hxs⟩ : ∃ xs, cutF xs0 = xs := ⟨_, rfl⟩
  obtain ⟨k, hkk⟩ : ∃ k, F.fewB key = k := ⟨_, rfl⟩
  have hlen : xs.length ≤ 65 := hxs ▸ cutF_len xs0
  have hks : k.size ≤ 300 := hkk ▸ F.few_size key
  have HX : Hid (∀ W, Below w.heap.size w W → Has W 0 w.heap.size A xs) := Lib.hid (fun W hb => by rw [← hxs]; exact (hx.take 65).on hb (Nat.le_refl _))
  have HB1 : Hid (Below w.heap.size w (w.alloc (.cells #[.slice A xs0.length c, .int .u8 (sp : Int), .int .u8 (gn : Int), .string key] 50))) := Lib.hid ((Below.refl _ w).alloc (Nat.le_refl _) _)
  have HG : Hid (Gb (w.alloc (.cells #[.slice A xs0.length c, .int .u8 (sp : Int), .int .u8 (gn : Int), .string key] 50)) w.heap.size (.slice A xs0.length c) sp gn key) := Lib.hid ⟨by go_simp, by go_simp, by go_simp, by go_simp⟩
  have HC1 : Hid (∀ W, Below w.heap.size w W → Calls Tryd.prog 9 #[.slice A xs0.length c] W fun e w' => e = .returned (.slice A xs.length c) ∧ Below W.heap.size W w') := Lib.hid (fun W hb => by rw [← hxs]; exact fewl_below A c 0 w.heap.size xs0 W hc hm (hx.on hb (Nat.le_refl _)))
  have HC2 : Hid (∀ W, Calls Tryd.prog 11 #[.string key] W fun e w' => e = .returned (.string k) ∧ Below W.heap.size W w') := Lib.hid (fun W => by rw [← hkk]; exact few_below key W hk)
  have hlc : xs.length ≤ c := by have h := cutF_le xs0; rw [hxs] at h; omega
  clear hx hxs hkk hk
  go_enter Tryd.func4, Tryd.ntmps4
  go_upto_region 1 with (fail)
  generalize w.alloc (.cells #[.slice A xs0.length c, .int .u8 (sp : Int), .int .u8 (gn : Int), .string key] 50) = w1 at *
  obtain ⟨g0, g1, g2, g3⟩ := HG.out
  have G0 : ∀ p : Regrown, (grow (redrawn w1 p.d) p.os).cell? ⟨w.heap.size, 0, none⟩ = some (.slice A xs0.length c) := fun p => cell_regrown g0 p.d p.os
  have G1 : ∀ p : Regrown, (grow (redrawn w1 p.d) p.os).cell? ⟨w.heap.size, 1, none⟩ = some (.int .u8 (sp : Int)) := fun p => cell_regrown g1 p.d p.os
  have G2 : ∀ p : Regrown, (grow (redrawn w1 p.d) p.os).cell? ⟨w.heap.size, 2, none⟩ = some (.int .u8 (gn : Int)) := fun p => cell_regrown g2 p.d p.os
  have G3 : ∀ p : Regrown, (grow (redrawn w1 p.d) p.os).cell? ⟨w.heap.size, 3, none⟩ = some (.string key) := fun p => cell_regrown g3 p.d p.os
  have hz1 := HB1.out.size
  have HP1 := Lib.hid (fun p : Regrown => HC1.out (grow (redrawn w1 p.d) p.os) (HB1.out.trans ((below_regrown w1 p.d p.os).mono hz1)))
  have HP2 := Lib.hid (fun p : Regrown => HC2.out (grow (redrawn w1 p.d) p.os))
  clear g0 g1 g2 g3 HG HC1 HC2
  refine q_enter (by kernel_rfl) (by kernel_rfl) ?_
  iterate 14 (refine q_step ?_; intro K hK; go_simp; first | (refine hK _ ?_; clear hK K) | (refine ⟨_, fun p => Calls.regrown_of (by with_reducible exact HP1.out p), hK _ ?_⟩; clear hK K) | (refine ⟨_, fun p => Calls.regrown_of (by with_reducible exact HP2.out p), hK _ ?_⟩; clear hK K))
  refine q_nil ?_
  intro w2 hb2
  have HB2 := Lib.hid (HB1.out.trans (hb2.mono hz1))
  clear hb2 HB1 HP1 HP2 G0 G1 G2 G3 hz1
  by_cases hlo : xs.length < 2
  · have e1 : decide ((xs.length : Int) < 2) = true := decide_eq_true (by omega)
    have e1' : decide (xs.length < 2) = true := decide_eq_true hlo
    clear hlo
    go_wp2_with fail
    refine (awake_any _).mono ?_
    rintro e w7 ⟨rfl, hb⟩
    go_wp2_with fail
    go_ret
    exact ⟨rfl, HB2.out.trans (hb.mono HB2.out.size)⟩
  have e1 : decide ((xs.length : Int) < 2) = false := decide_eq_false (by omega)
  have e1' : decide (xs.length < 2) = false := decide_eq_false hlo
  by_cases hhi : 8 < xs.length
  · have e2 : decide ((8 : Int) < (xs.length : Int)) = true := decide_eq_true (by omega)
    have e2' : decide (8 < xs.length) = true := decide_eq_true hhi
    clear hlo hhi
    go_wp2_with fail
    refine (awake_any _).mono ?_
    rintro e w7 ⟨rfl, hb⟩
    go_wp2_with fail
    go_ret
    exact ⟨rfl, HB2.out.trans (hb.mono HB2.out.size)⟩
  have e2 : decide ((8 : Int) < (xs.length : Int)) = false := decide_eq_false (by omega)
  have e2' : decide (8 < xs.length) = false := decide_eq_false hhi
  obtain ⟨L, hL⟩ : ∃ L, nodesB xs = L := ⟨_, rfl⟩
  have HND := Lib.hid (fun (W : World) (h : Has W 0 w.heap.size A xs) => rnodes_t A c 0 w.heap.size xs W (by omega) h L hL)
  rcases L with _ | _
  · go_wp2_with fail
    refine (HND.out _ (HX.out _ HB2.out)).mono ?_
    rintro e w3 ⟨rfl, hb3⟩
    have HB3 := Lib.hid (HB2.out.trans (hb3.mono HB2.out.size))
    clear hlo hhi hb3
    go_wp2_with fail
    refine (awake_any _).mono ?_
    rintro e w7 ⟨rfl, hb⟩
    go_wp2_with fail
    go_ret
    exact ⟨rfl, HB3.out.trans (hb.mono HB3.out.size)⟩
  go_wp2_with fail
  refine (HND.out _ (HX.out _ HB2.out)).mono ?_
  rintro e w3 ⟨rfl, hb3⟩
  have HB3 := Lib.hid (HB2.out.trans (hb3.mono HB2.out.size))
  clear hb3 HB2 e1 e1' e2 e2' HND
  have hpos : 0 < xs.length := by omega
  obtain ⟨kk, hkk⟩ : ∃ kk, gn % xs.length = kk := ⟨_, rfl⟩
  obtain ⟨n1, n2, n3, n4, n5⟩ := u8_mod gn kk xs.length hgn hkk hpos (by omega)
  obtain ⟨qq, hqq⟩ : ∃ qq, sp % 8 = qq := ⟨_, rfl⟩
  obtain ⟨s1, s2, s3, s4, s5⟩ := u8_mod sp qq 8 hsp hqq (by decide) (by decide)
  replace s1 : Int.tmod (sp : Int) 8 = (qq : Int) := s1
  replace s2 : (sp : Int) % 8 = (qq : Int) := s2
  have n6 : IntKind.i64.wrap (gn : Int) = (gn : Int) := IntWalk.i64_in _ (by omega)
  obtain ⟨N, hN⟩ : ∃ N, N = 1 + qq := ⟨_, rfl⟩
  have s6 : IntKind.i64.wrap (1 + (qq : Int)) = (N : Int) := by rw [IntWalk.i64_in _ (by omega)]; omega
  have hN1 : 1 ≤ N ∧ N ≤ 32 := by omega
  have ez : ¬ xs.length = 0 := by omega
  have herr := err_pts hL (s := N) (by omega) (by omega) hpos
  have hnum := nodesB_nums hL
  clear hkk hqq hN
  have HLE : Hid (nodesB (xs.take kk ++ xs.drop (kk + 1)) = true) := Lib.hid (nodes_sub (less_sub xs kk) hL)
  have hel : (xs.take kk ++ xs.drop (kk + 1)).length = xs.length - 1 := by simp; omega
  have herr2 := err_pts HLE.out (s := N) (by omega) (by omega) (by omega)
  have HMO : Hid (ownP (ptsP (xs.take kk ++ xs.drop (kk + 1)) N) (sumK k) = if ownP (ptsP xs N) (sumK k) = xs.getD kk 0 then (walkP (ptsP xs N) (sumK k)).getD 1 0 else ownP (ptsP xs N) (sumK k)) := Lib.hid (pts_more hnum (by omega) (sumK k) kk (by omega) (by omega))
  have HWL : Hid ((walkP (ptsP xs N) (sumK k)).length = xs.length) := Lib.hid (pts_walk_len hnum (by omega) (sumK k))
  have HP := Lib.hid (fun (W : World) (h : Has W 0 w.heap.size A xs) (hh : w.heap.size ≤ W.heap.size) => points_yes A c 0 w.heap.size xs N W h hh hL (by omega) (by omega))
  have HO := Lib.hid (fun (A : Option Addr) (c : Nat) (W : World) (h : Ps W A (ptsP xs N)) => owner_any A c _ k W (by rw [pts_len]; have := Nat.mul_le_mul hlen hN1.2; omega) h (by unfold maxLen; omega) _ 0 herr rfl)
  have HW := Lib.hid (fun (A : Option Addr) (c : Nat) (W : World) (h : Ps W A (ptsP xs N)) => walk_any A c _ k W (by rw [pts_len]; have := Nat.mul_le_mul hlen hN1.2; omega) h (by unfold maxLen; omega) 0 herr)
  have HPL : Hid ((ptsP xs N).length ≤ 100000 ∧ (ptsP (xs.take kk ++ xs.drop (kk + 1)) N).length ≤ 100000) := Lib.hid (by rw [pts_len, pts_len, hel]; have := Nat.mul_le_mul hlen hN1.2; have := Nat.mul_le_mul (show xs.length - 1 ≤ 65 by omega) hN1.2; omega)
  have HP2 := Lib.hid (fun (A : Option Addr) (c lo hi : Nat) (W : World) (h : Has W lo hi A (xs.take kk ++ xs.drop (kk + 1))) (hh : hi ≤ W.heap.size) => points_yes A c lo hi _ N W h hh HLE.out (by omega) (by omega))
  have HO2 := Lib.hid (fun (A : Option Addr) (c : Nat) (W : World) (h : Ps W A (ptsP (xs.take kk ++ xs.drop (kk + 1)) N)) => owner_any A c _ k W HPL.out.2 h (by unfold maxLen; omega) _ 0 herr2 rfl)
  rw [if_pos rfl] at HO HW HO2
  clear herr herr2 hnum hL hN1
  generalize walkP (ptsP xs N) (sumK k) = WK at *
  generalize ownP (ptsP xs N) (sumK k) = x at *
  generalize ownP (ptsP (xs.take kk ++ xs.drop (kk + 1)) N) (sumK k) = y at *
  generalize ptsP (xs.take kk ++ xs.drop (kk + 1)) N = lb at *
  generalize ptsP xs N = la at *
  have kb0 : (0 : Int) ≤ (kk : Int) := by omega
  have kb1 : (kk : Int) < (xs.length : Int) := by omega
  have kb2 : (kk : Int) ≤ (c : Int) := by omega
  have kb3 : IntKind.i64.wrap ((kk : Int) + 1) = ((kk + 1 : Nat) : Int) := by rw [IntWalk.i64_in _ (by omega)]; omega
  have kb4 : ((kk + 1 : Nat) : Int) ≤ (c : Int) := by omega
  have kb5 : ((kk + 1 : Nat) : Int) ≤ (xs.length : Int) := by omega
  obtain ⟨k1, hk1⟩ : ∃ k1, kk + 1 = k1 := ⟨_, rfl⟩
  rw [hk1] at HLE HP2 hel kb3 kb4 kb5
  have HRS : Hid (∀ W, Below w.heap.size w W → Has W 0 w.heap.size A (xs.take kk) ∧ Has W 0 w.heap.size (if c = k1 then A else Option.map (fun x => x.add k1) A) (xs.drop k1)) := Lib.hid (fun W hb => ⟨(HX.out W hb).take kk, has_rest (HX.out W hb) k1 c (by omega)⟩)
  have HTK : Hid ((xs.take kk).length = kk) := Lib.hid (by simp; omega)
  have HDL : Hid ((xs.drop k1).length = xs.length - k1) := Lib.hid (by simp)
  have HK1 := Lib.hid hk1
  clear hk1
  go_upto_region 5 with (fail)
  refine z_enter [(1, true), (2, true), (3, true), (5, true), (6, true), (7, true), (8, true), (0, false), (4, false), (9, false), (10, true)] (Below w.heap.size w) (by kernel_rfl) (by kernel_rfl) (by kernel_rfl) (fun _ _ d _ _ h => by cases d <;> exact h) (HB3.out.drew) ?_
  simp only [pickL, List.drop_succ_cons, List.drop_zero]
  have HB4 : Hid (Below w.heap.size w w3.drew) := Lib.hid HB3.out.drew
  clear HB3
  generalize w3.drew = w4 at *
  iterate 7 (first | (refine' z_yes ?_ (by rfl) ?_ ?_; rotate_left; (intro w' hS; (try dsimp only at hS); go_simp; try (with_reducible rfl)); simp only [Act.put, List.setIfInBounds_toArray, List.set_cons_zero, List.set_cons_succ]) | (refine z_no (by rfl) ?_; simp only [Act.put, List.setIfInBounds_toArray, List.set_cons_zero, List.set_cons_succ]))
  generalize hAD : (if c = k1 then A else Option.map (fun x => x.add k1) A) = AD at *
  clear hAD
  refine z_mem ?_
  intro KK hK
  go_simp
  have hz4 := HB4.out.size
  have HB5 : Hid (Below w.heap.size w (w4.alloc (.cells #[] 3))) := Lib.hid (HB4.out.alloc hz4 _)
  have HO5 : Hid (Own (w4.alloc (.cells #[] 3)) w.heap.size (.slice (some ⟨w4.heap.size, 0, none⟩) 0 0) []) := Lib.hid (World.ownsRow_made w4 #[] 0 hz4 (Nat.zero_le _) rfl)
  generalize w4.alloc (.cells #[] 3) = w5 at *
  generalize w4.heap.size = ge at *
  refine hK.out _ _ HB5.out ?_
  clear hK HB4 hz4
  refine z_mem ?_
  intro KK hK
  rw [if_pos (by rfl)]
  refine wp_append_has _ _ rfl w.heap.size (.slice (some ⟨ge, 0, none⟩) 0 0) [] rfl HO5.out A c 0 w.heap.size (xs.take kk) (by rw [HTK.out]; rfl) (HRS.out _ HB5.out).1 (by simp; omega) HB5.out.size ?_
  intro v6 w6 hown hgrow
  have HB6 := Lib.hid (below_grownO HB5.out HO5.out hgrow HB5.out.size (Nat.le_refl _))
  rw [List.nil_append] at hown
  have HO6 := Lib.hid hown
  refine hK.out _ _ HB6.out ?_
  clear hK hown hgrow HB5 HO5
  simp only [Act.put, List.setIfInBounds_toArray, List.set_cons_zero, List.set_cons_succ]
  refine z_mem ?_
  intro KK hK
  rw [if_pos (by rfl)]
  refine wp_append_has _ _ rfl w.heap.size v6 (xs.take kk) rfl HO6.out AD (c - k1) 0 w.heap.size (xs.drop k1) (by rw [HDL.out]; rfl) (HRS.out _ HB6.out).2 (by simp; omega) HB6.out.size ?_
  intro v7 w7 hown hgrow
  have HB7 := Lib.hid (below_grownO HB6.out HO6.out hgrow HB6.out.size (Nat.le_refl _))
  have HO7 := Lib.hid hown
  refine hK.out _ _ HB7.out ?_
  clear hK hown hgrow HB6 HO6
  simp only [Act.put, List.setIfInBounds_toArray, List.set_cons_zero, List.set_cons_succ]
  iterate 1 (first | (refine' z_yes ?_ (by rfl) ?_ ?_; rotate_left; (intro w' hS; (try dsimp only at hS); go_simp; try (with_reducible rfl)); simp only [Act.put, List.setIfInBounds_toArray, List.set_cons_zero, List.set_cons_succ]) | (refine z_no (by rfl) ?_; simp only [Act.put, List.setIfInBounds_toArray, List.set_cons_zero, List.set_cons_succ]))
  refine z_nil ?_
  clear HRS HTK HDL kb2 kb3 kb4 kb5 hel
  obtain ⟨A7, c7, rfl, hc7, hh7⟩ := HO7.out.has
  clear hh7
  generalize xs.take kk ++ xs.drop k1 = ys at *
  go_wp2_with fail
  refine (HP.out _ (HX.out _ HB7.out) HB7.out.size).mono ?_
  rintro e w8 ⟨v8, rfl, ho8, hb⟩
  have B_1 := Lib.hid (HB7.out.trans (hb.mono HB7.out.size))
  have O_1 := Lib.hid (HO7.out.on hb)
  clear HB7 HO7
  clear hb
  obtain ⟨A8, c8, rfl, hc8, hp8⟩ := ho8.lst
  have HA8 := Lib.hid hp8
  clear ho8 hp8 HP
  go_wp2_with fail
  refine (HP2.out _ _ _ _ _ O_1.out.hasAt.2.2 (Nat.le_refl _)).mono ?_
  rintro e w9 ⟨v9, rfl, ho9, hb⟩
  have B_2 := Lib.hid (B_1.out.trans (hb.mono B_1.out.size))
  have O_2 := Lib.hid (O_1.out.on hb)
  have A_2 := Lib.hid (HA8.out.on hb)
  clear B_1 O_1 HA8
  clear hb
  clear O_2
  obtain ⟨A9, c9, rfl, hc9, hp9⟩ := ho9.lst
  have HA9 := Lib.hid hp9
  clear ho9 hp9 HP2
  go_wp2_with fail
  refine (HO.out _ _ _ A_2.out).mono ?_
  rintro e w10 ⟨rfl, hb⟩
  have B_3 := Lib.hid (B_2.out.trans (hb.mono B_2.out.size))
  have A_3 := Lib.hid (A_2.out.on hb)
  have C_3 := Lib.hid (HA9.out.on hb)
  clear B_2 A_2 HA9
  clear hb
  clear HO
  go_wp2_with fail
  refine (HO2.out _ _ _ C_3.out).mono ?_
  rintro e w11 ⟨rfl, hb⟩
  have B_4 := Lib.hid (B_3.out.trans (hb.mono B_3.out.size))
  have A_4 := Lib.hid (A_3.out.on hb)
  have C_4 := Lib.hid (C_3.out.on hb)
  clear B_3 A_3 C_3
  clear hb
  clear HO2
  clear C_4
  go_wp2_with fail
  refine (HW.out _ _ _ A_4.out).mono ?_
  rintro e w12 ⟨v12, rfl, ho12, hb⟩
  have B_5 := Lib.hid (B_4.out.trans (hb.mono B_4.out.size))
  have A_5 := Lib.hid (A_4.out.on hb)
  clear B_4 A_4
  clear hb
  clear HW
  clear A_5
  obtain ⟨A12, c12, rfl, hc12, hh12⟩ := ho12.has
  have HH12 := Lib.hid hh12
  clear ho12 hh12
  have e1 : ((WK.length : Int) != (xs.length : Int)) = false := by have := HWL.out; simp; omega
  have e1' : (WK.length != xs.length) = false := by have := HWL.out; simp; omega
  obtain ⟨ad, rfl, _, _, hcell⟩ := (HX.out _ B_5.out) kk n5
  generalize xs.getD kk 0 = nk at *
  by_cases hxn : x = nk
  · have e2 : (x != nk) = false := by simpa using hxn
    have hy : y = WK.getD 1 0 := by rw [HMO.out, if_pos hxn]
    obtain ⟨ad2, rfl, _, _, hcell2⟩ := HH12.out 1 (by have := HWL.out; omega)
    rw [← hy] at hcell2
    have hcell3 : w12.cell? ⟨ad2.block, ad2.off + 1, none⟩ = some (.int .i64 y) := hcell2
    have hl2 : (1 : Int) < (WK.length : Int) := by have := HWL.out; omega
    have hl2' : 1 < WK.length := by have := HWL.out; omega
    clear hxn hy HMO
    have z1 : (y == y) = true := by simp
    go_wp2_with fail
    refine (awake_any _).mono ?_
    rintro e w7 ⟨rfl, hb⟩
    go_wp2_with fail
    go_ret
    exact ⟨rfl, B_5.out.trans (hb.mono B_5.out.size)⟩
  · have e2 : (x != nk) = true := by simpa using hxn
    have hy : y = x := by rw [HMO.out, if_neg hxn]
    subst hy
    clear hxn HMO
    have z1 : (y == y) = true := by simp
    go_wp2_with fail
    refine (awake_any _).mono ?_
    rintro e w7 ⟨rfl, hb⟩
    go_wp2_with fail
    go_ret
    exact ⟨rfl, B_5.out.trans (hb.mono B_5.out.size)⟩

theorem parOk : ∀ t ∈ (#[50] : Array TypeId).toList, Tryd.prog.readableRec t = true ∧ t < Tryd.prog.types.size := by
  have hall : ([50].all fun t => Tryd.prog.readableRec t && decide (t < Tryd.prog.types.size)) = true := by kernel_rfl
  intro t ht
  simpa using List.all_eq_true.1 hall t ht

set_option maxRecDepth 100000 in
/-- What the walk gives, for every argument and every world that holds the table. -/
theorem contract (H : Type) (enc : TypeId × Value → H) (W : World) (base : Nat) (args : Array Value) (ds gs : List (DataW H)) (before : List MemPlace)
    (hval : ∀ (j : Nat) t v, Tryd.f4.params[j]? = some t → args[j]? = some v → Value.okWide Tryd.prog W .any base t v)
    (hW : DataW.Whole enc Tryd.prog Tryd.f4.params.toList Rows.ringMoreSpec.vars false W args.toList ds gs before) (_ : laidMetH Tryd.prog Rows.ringMoreRow.laid W) :
    Calls Tryd.prog 4 args W fun e W' => ∃ v, e = .returned v ∧ Rows.ringMoreSpec.post enc Tryd.prog Tryd.f4 false true false false W args v W' := by
  have hW' := hW
  obtain ⟨p, q, hA0, hV, rfl, hfz, hnd⟩ := hW
  have hA : DataW.TrodAll enc Tryd.prog W 0 (fun _ => true) true Tryd.f4.params.toList args.toList ds p := hA0
  rw [Tryd.params4] at hA hval
  obtain ⟨v0, vs0, d0, ds0, p0, q0, hargs, rfl, rfl, h0, r0⟩ := trodAll_cons hA
  obtain ⟨rfl, rfl, rfl⟩ := trodAll_nil r0
  obtain rfl : args = #[v0] := by cases args; simp_all
  obtain ⟨rfl, rfl⟩ := trodVars_none hV
  obtain ⟨A, c, xs, a, b, s, rfl, hc, hm, hx, ha, hb, hk⟩ := open_gone (hval 0 50 v0 rfl rfl) h0
  clear hA0
  refine (walk A c xs a b s W hc hm hx ha hb hk).mono fun e W' ⟨he, hb⟩ => ?_
  subst he
  exact ⟨_, rfl, law_post rfl (by rw [Tryd.params4]; exact parOk) rfl hW' rfl rfl rfl hb⟩

set_option maxRecDepth 100000 in
theorem laid_met (os : Os) : laidMet Tryd.prog Rows.ringMoreRow.laid ((laidWorld os).forCall (fun _ _ => 0) ⟨#[], #[.agg #[.slice none 0 0, .int .u8 0, .int .u8 0, .string ⟨#[]⟩]], []⟩).memory :=
  laidMet_of_run' 8 (by kernel_rfl) (by kernel_rfl)
set_option maxRecDepth 100000 in
theorem reads (os : Os) {H : Type} (enc : TypeId × Value → H) : ∃ places, DataW.whole enc Tryd.prog ((laidWorld os).forCall (fun _ _ => 0) ⟨#[], #[.agg #[.slice none 0 0, .int .u8 0, .int .u8 0, .string ⟨#[]⟩]], []⟩).memory Tryd.f4.params.toList Rows.ringMoreSpec.vars false (#[.agg #[.slice none 0 0, .int .u8 0, .int .u8 0, .string ⟨#[]⟩]] : Array Value).toList 8 = some ([.agg [.nil, .lit (.int .u8 0), .lit (.int .u8 0), .lit (.string [])]], [], places) :=
  ⟨[], by kernel_rfl⟩

set_option maxRecDepth 100000 in
theorem lifted (os : Os) (started : os.Started) (H : Type) (enc : TypeId × Value → H) (F : Stop.Interp) :
    ReturnsInHanded {} Tryd.checked os 4 .any ((OpenSpec.ofChange Rows.ringMoreSpec).preRow enc Tryd.prog Tryd.f4 Rows.ringMoreRow.domain false Rows.ringMoreRow.laid) (((OpenSpec.ofChange Rows.ringMoreSpec).at F).post enc Tryd.prog Tryd.f4 false true false false) := by
  obtain ⟨places, hx⟩ := reads os enc
  refine returnsInHanded_of_row (C := Tryd.checked) (s := OpenSpec.ofChange Rows.ringMoreSpec) own started (by kernel_rfl) Tryd.func4
    (witness_row_at (enc := enc) (C := Tryd.checked) false (laidWorld os) #[.agg #[.slice none 0 0, .int .u8 0, .int .u8 0, .string ⟨#[]⟩]] rfl (by kernel_rfl) (by kernel_rfl) (by kernel_rfl)
      (OpenSpec.preRow_of_cond 8 hx (by kernel_rfl) (fun k hk => by cases hk) (by kernel_rfl) (laid_met os))) ?_
  intro W base args ds gs before hval hW _ _ _ hL _ _
  exact contract H enc W base args ds gs before hval hW hL

theorem said : Rows.RingMoreSaid :=
  OpenClaim.holds_of_cond 4 Tryd.f4 rfl rfl rfl rfl rfl rfl rfl ⟨rfl, rfl, rfl, rfl, rfl⟩ rfl rfl rfl rfl rfl (by kernel_rfl) Tryd.func4 (by kernel_rfl)
    (of_decide_eq_true (by kernel_rfl)) (by unfold Func.isWrapper; first | (rw [if_pos (by decide +kernel)]; kernel_rfl) | (rw [if_neg (by decide +kernel)]; exact ⟨rfl, rfl⟩))
    (fun os started H enc _ F => by rw [OpenClaim.pre_eq_preRow]; exact lifted os started H enc F)

/-- No parameter wants a stand-in; the program's own looks are off. -/
theorem plain (f : FuncId) (fn : Func) (hf : Tryd.pinned.checked.prog.funcNamed "tattle/tattlelaw13.RingMore" = some f) (hfn : Tryd.pinned.checked.prog.funcs[f]? = some fn) :
    false = Tryd.pinned.checked.prog.looks [] ∧ ∀ (j : Nat) t, fn.params[j]? = some t → Tryd.pinned.checked.prog.wantsStandIn t = false := by
  obtain rfl : f = 4 := Option.some.inj ((show Tryd.prog.funcNamed "tattle/tattlelaw13.RingMore" = some 4 by kernel_rfl).symm.trans hf) |>.symm
  obtain rfl : fn = Tryd.f4 := (Option.some.inj (Tryd.func4.symm.trans hfn)).symm
  refine ⟨by kernel_rfl, fun j t ht => ?_⟩
  rw [Tryd.params4] at ht
  have hm : t ∈ [50] := by simpa using Array.mem_of_getElem? ht
  have hall : ([50].all fun u => !Tryd.prog.wantsStandIn u) = true := by kernel_rfl
  exact (show Tryd.prog.wantsStandIn t = false by simpa using List.all_eq_true.1 hall t hm)

/-- THE CARD. -/
theorem card : Rows.RingMoreCardSaid :=
  Claim7.holds_tied_plain_at .later [] _ _ _ _ said (fun _ h => by cases h) (by kernel_rfl) (fun _ h => by cases h) ringMore_row_tie rfl ⟨rfl, rfl⟩ (by kernel_rfl) rfl plain (by kernel_rfl)
end Go.Proofs.YtjmjeaipdfmglaaDoor.lawMore
