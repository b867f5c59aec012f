/-
  RingWalks: a walk has each node once, the owner first; without a node it is the same without it: the law returns true for every input.
-/
import Derived.Test.YtjmjeaipdfmglaaDoorKit
import Derived.Test.YtjmjeaipdfmglaaDoorCards
import Derived.Test.YtjmjeaipdfmglaaDoorTie
namespace Go.Proofs.YtjmjeaipdfmglaaDoor.lawWalks
open Go.ChangeMaps (open_string)
open Go.Sort Go.ChangeShapes Go.WideShapes Go.ChangeAt Go.RowKit Go.Joins Go.Proofs.YtjmjeaipdfmglaaDoor.Pure

theorem filt_snoc (l : List Int) (i : Nat) (hi : i < l.length) (nk : Int) : (l.take (i + 1)).filter (fun y => decide (y ≠ nk)) = if l.getD i 0 = nk then (l.take i).filter (fun y => decide (y ≠ nk)) else (l.take i).filter (fun y => decide (y ≠ nk)) ++ [l.getD i 0] := by
  rw [take_snoc l i hi, List.filter_append]
  generalize l.getD i 0 = y
  by_cases h : y = nk
  · rw [if_pos h]; simp [h]
  · rw [if_neg h]; simp [h]
set_option maxRecDepth 100000 in
set_option maxHeartbeats 4000000 in
theorem walk (A : Option Addr) (c : Nat) (xs0 : List Int) (sp gn : Nat) (key : ByteArray) (w : World) (hc : xs0.length ≤ c) (hm : c ≤ maxLen) (hx : Has w 0 w.heap.size A xs0) (hsp : sp ≤ 255) (hgn : gn ≤ 255) (hk : key.size ≤ maxLen) :
    Calls Tryd.prog 5 #[.agg #[.slice A xs0.length c, .int .u8 (sp : Int), .int .u8 (gn : Int), .string key]] w fun e w' => e = .returned (.bool true) ∧ Below w.heap.size w w' := by
  obtain ⟨xs, hxs⟩ : ∃ xs, cutF xs0 = xs := ⟨_, rfl⟩
  obtain ⟨k, hkk⟩ : ∃ k, F.fewB key = k := ⟨_, rfl⟩
  have hlen : xs.length ≤ 65 := hxs ▸ cutF_len xs0
  have hks : k.size ≤ 300 := hkk ▸ F.few_size key
  have HX : Hid (∀ W, Below w.heap.size w W → Has W 0 w.heap.size A xs) := Lib.hid (fun W hb => by rw [← hxs]; exact (hx.take 65).on hb (Nat.le_refl _))
  have HB1 : Hid (Below w.heap.size w (w.alloc (.cells #[.slice A xs0.length c, .int .u8 (sp : Int), .int .u8 (gn : Int), .string key] 50))) := Lib.hid ((Below.refl _ w).alloc (Nat.le_refl _) _)
  have HG : Hid (Gb (w.alloc (.cells #[.slice A xs0.length c, .int .u8 (sp : Int), .int .u8 (gn : Int), .string key] 50)) w.heap.size (.slice A xs0.length c) sp gn key) := Lib.hid ⟨by go_simp, by go_simp, by go_simp, by go_simp⟩
  have HC1 : Hid (∀ W, Below w.heap.size w W → Calls Tryd.prog 9 #[.slice A xs0.length c] W fun e w' => e = .returned (.slice A xs.length c) ∧ Below W.heap.size W w') := Lib.hid (fun W hb => by rw [← hxs]; exact fewl_below A c 0 w.heap.size xs0 W hc hm (hx.on hb (Nat.le_refl _)))
  have HC2 : Hid (∀ W, Calls Tryd.prog 11 #[.string key] W fun e w' => e = .returned (.string k) ∧ Below W.heap.size W w') := Lib.hid (fun W => by rw [← hkk]; exact few_below key W hk)
  have hlc : xs.length ≤ c := by have h := cutF_le xs0; rw [hxs] at h; omega
  clear hx hxs hkk hk
  go_enter Tryd.func5, Tryd.ntmps5
  go_upto_region 1 with (fail)
  generalize w.alloc (.cells #[.slice A xs0.length c, .int .u8 (sp : Int), .int .u8 (gn : Int), .string key] 50) = w1 at *
  obtain ⟨g0, g1, g2, g3⟩ := HG.out
  have G0 : ∀ p : Regrown, (grow (redrawn w1 p.d) p.os).cell? ⟨w.heap.size, 0, none⟩ = some (.slice A xs0.length c) := fun p => cell_regrown g0 p.d p.os
  have G1 : ∀ p : Regrown, (grow (redrawn w1 p.d) p.os).cell? ⟨w.heap.size, 1, none⟩ = some (.int .u8 (sp : Int)) := fun p => cell_regrown g1 p.d p.os
  have G2 : ∀ p : Regrown, (grow (redrawn w1 p.d) p.os).cell? ⟨w.heap.size, 2, none⟩ = some (.int .u8 (gn : Int)) := fun p => cell_regrown g2 p.d p.os
  have G3 : ∀ p : Regrown, (grow (redrawn w1 p.d) p.os).cell? ⟨w.heap.size, 3, none⟩ = some (.string key) := fun p => cell_regrown g3 p.d p.os
  have hz1 := HB1.out.size
  have HP1 := Lib.hid (fun p : Regrown => HC1.out (grow (redrawn w1 p.d) p.os) (HB1.out.trans ((below_regrown w1 p.d p.os).mono hz1)))
  have HP2 := Lib.hid (fun p : Regrown => HC2.out (grow (redrawn w1 p.d) p.os))
  clear g0 g1 g2 g3 HG HC1 HC2
  refine q_enter (by kernel_rfl) (by kernel_rfl) ?_
  iterate 14 (refine q_step ?_; intro K hK; go_simp; first | (refine hK _ ?_; clear hK K) | (refine ⟨_, fun p => Calls.regrown_of (by with_reducible exact HP1.out p), hK _ ?_⟩; clear hK K) | (refine ⟨_, fun p => Calls.regrown_of (by with_reducible exact HP2.out p), hK _ ?_⟩; clear hK K))
  refine q_nil ?_
  intro w2 hb2
  have HB2 := Lib.hid (HB1.out.trans (hb2.mono hz1))
  clear hb2 HB1 HP1 HP2 G0 G1 G2 G3 hz1
  by_cases hlo : xs.length < 1
  · have e1 : decide ((xs.length : Int) < 1) = true := decide_eq_true (by omega)
    have e1' : decide (xs.length < 1) = true := decide_eq_true hlo
    clear hlo
    go_wp2_with fail
    refine (awake_any _).mono ?_
    rintro e w7 ⟨rfl, hb⟩
    go_wp2_with fail
    go_ret
    exact ⟨rfl, HB2.out.trans (hb.mono HB2.out.size)⟩
  have e1 : decide ((xs.length : Int) < 1) = false := decide_eq_false (by omega)
  have e1' : decide (xs.length < 1) = false := decide_eq_false hlo
  by_cases hhi : 8 < xs.length
  · have e2 : decide ((8 : Int) < (xs.length : Int)) = true := decide_eq_true (by omega)
    have e2' : decide (8 < xs.length) = true := decide_eq_true hhi
    clear hlo hhi
    go_wp2_with fail
    refine (awake_any _).mono ?_
    rintro e w7 ⟨rfl, hb⟩
    go_wp2_with fail
    go_ret
    exact ⟨rfl, HB2.out.trans (hb.mono HB2.out.size)⟩
  have e2 : decide ((8 : Int) < (xs.length : Int)) = false := decide_eq_false (by omega)
  have e2' : decide (8 < xs.length) = false := decide_eq_false hhi
  obtain ⟨L, hL⟩ : ∃ L, nodesB xs = L := ⟨_, rfl⟩
  have HND := Lib.hid (fun (W : World) (h : Has W 0 w.heap.size A xs) => rnodes_t A c 0 w.heap.size xs W (by omega) h L hL)
  rcases L with _ | _
  · go_wp2_with fail
    refine (HND.out _ (HX.out _ HB2.out)).mono ?_
    rintro e w3 ⟨rfl, hb3⟩
    have HB3 := Lib.hid (HB2.out.trans (hb3.mono HB2.out.size))
    clear hlo hhi hb3
    go_wp2_with fail
    refine (awake_any _).mono ?_
    rintro e w7 ⟨rfl, hb⟩
    go_wp2_with fail
    go_ret
    exact ⟨rfl, HB3.out.trans (hb.mono HB3.out.size)⟩
  go_wp2_with fail
  refine (HND.out _ (HX.out _ HB2.out)).mono ?_
  rintro e w3 ⟨rfl, hb3⟩
  have HB3 := Lib.hid (HB2.out.trans (hb3.mono HB2.out.size))
  clear hb3 HB2 e1 e1' e2 e2' HND
  have hpos : 0 < xs.length := by omega
  obtain ⟨kk, hkk⟩ : ∃ kk, gn % xs.length = kk := ⟨_, rfl⟩
  obtain ⟨n1, n2, n3, n4, n5⟩ := u8_mod gn kk xs.length hgn hkk hpos (by omega)
  obtain ⟨qq, hqq⟩ : ∃ qq, sp % 8 = qq := ⟨_, rfl⟩
  obtain ⟨s1, s2, s3, s4, s5⟩ := u8_mod sp qq 8 hsp hqq (by decide) (by decide)
  replace s1 : Int.tmod (sp : Int) 8 = (qq : Int) := s1
  replace s2 : (sp : Int) % 8 = (qq : Int) := s2
  have n6 : IntKind.i64.wrap (gn : Int) = (gn : Int) := IntWalk.i64_in _ (by omega)
  obtain ⟨N, hN⟩ : ∃ N, N = 1 + qq := ⟨_, rfl⟩
  have s6 : IntKind.i64.wrap (1 + (qq : Int)) = (N : Int) := by rw [IntWalk.i64_in _ (by omega)]; omega
  have hN1 : 1 ≤ N ∧ N ≤ 32 := by omega
  have ez : ¬ xs.length = 0 := by omega
  have herr := err_pts hL (s := N) (by omega) (by omega) hpos
  have hnum := nodesB_nums hL
  clear hkk hqq hN
  have hwl : (walkP (ptsP xs N) (sumK k)).length = xs.length := pts_walk_len hnum (by omega) (sumK k)
  have HWL := Lib.hid hwl
  have hlp : 0 < (ptsP xs N).length := by rw [pts_len]; exact Nat.mul_pos hpos (by omega)
  have HW0 : Hid ((walkP (ptsP xs N) (sumK k)).getD 0 0 = ownP (ptsP xs N) (sumK k)) := Lib.hid (by obtain ⟨r, hr⟩ := walk_head (sumK k) hlp; rw [hr]; rfl)
  have HMY : Hid (∀ i, i < xs.length → many (walkP (ptsP xs N) (sumK k)) (xs.getD i 0) = 1) := Lib.hid (fun i hi => by
    have h1 := (pts_walk_mem (nodes := xs) (s := N) (by omega) (sumK k) (xs.getD i 0)).2 (getD_mem xs i hi)
    have h2 := (walk_nodup (ptsP xs N) (sumK k)).count (a := xs.getD i 0)
    rw [if_pos h1] at h2; exact h2)
  have HSUB : Hid (∀ nk : Int, nodesB (xs.filter (fun y => decide (y ≠ nk))) = true) := Lib.hid (fun nk => nodes_sub List.filter_sublist hL)
  have HLS : Hid (∀ nk : Int, walkP (ptsP (xs.filter (fun y => decide (y ≠ nk))) N) (sumK k) = (walkP (ptsP xs N) (sumK k)).filter (fun y => decide (y ≠ nk))) := Lib.hid (fun nk => pts_less hnum N (sumK k) nk)
  have HP := Lib.hid (fun (W : World) (h : Has W 0 w.heap.size A xs) (hh : w.heap.size ≤ W.heap.size) => points_yes A c 0 w.heap.size xs N W h hh hL (by omega) (by omega))
  have HO := Lib.hid (fun (A : Option Addr) (c : Nat) (W : World) (h : Ps W A (ptsP xs N)) => owner_any A c _ k W (by rw [pts_len]; have := Nat.mul_le_mul hlen hN1.2; omega) h (by unfold maxLen; omega) _ 0 herr rfl)
  have HW := Lib.hid (fun (A : Option Addr) (c : Nat) (W : World) (h : Ps W A (ptsP xs N)) => walk_any A c _ k W (by rw [pts_len]; have := Nat.mul_le_mul hlen hN1.2; omega) h (by unfold maxLen; omega) 0 herr)
  rw [if_pos rfl] at HO HW
  have HN1 := Lib.hid hN1
  clear herr hnum hL hN1 hwl hlp
  generalize walkP (ptsP xs N) (sumK k) = WK at *
  generalize ownP (ptsP xs N) (sumK k) = x at *
  generalize ptsP xs N = la at *
  obtain ⟨ad, rfl, _, _, _⟩ := (HX.out _ HB3.out) kk n5
  go_wp2_with fail
  refine (HP.out _ (HX.out _ HB3.out) HB3.out.size).mono ?_
  rintro e w8 ⟨v8, rfl, ho8, hb⟩
  have B_1 := Lib.hid (HB3.out.trans (hb.mono HB3.out.size))
  clear HB3
  clear hb
  obtain ⟨A8, c8, rfl, hc8, hp8⟩ := ho8.lst
  have HA8 := Lib.hid hp8
  clear ho8 hp8 HP
  go_wp2_with fail
  refine (HW.out _ _ _ HA8.out).mono ?_
  rintro e w12 ⟨v12, rfl, ho12, hb⟩
  have B_2 := Lib.hid (B_1.out.trans (hb.mono B_1.out.size))
  have A_2 := Lib.hid (HA8.out.on hb)
  clear B_1 HA8
  clear hb
  clear HW
  obtain ⟨A12, c12, rfl, hc12, hh12⟩ := ho12.has
  have HW12 := Lib.hid ho12
  clear hh12 ho12
  go_wp2_with fail
  refine (HO.out _ _ _ A_2.out).mono ?_
  rintro e w10 ⟨rfl, hb⟩
  have B_3 := Lib.hid (B_2.out.trans (hb.mono B_2.out.size))
  have A_3 := Lib.hid (A_2.out.on hb)
  have W_3 := Lib.hid (HW12.out.on hb)
  clear B_2 A_2 HW12
  clear hb
  clear HO
  clear A_3
  have e1 : ((WK.length : Int) != (xs.length : Int)) = false := by have := HWL.out; simp; omega
  have e1' : (WK.length != xs.length) = false := by have := HWL.out; simp; omega
  obtain ⟨ad2, rfl, _, _, hcell2⟩ := W_3.out.hasAt.2.2 0 (by have := HWL.out; omega)
  rw [HW0.out] at hcell2
  have hcell3 : w10.cell? ad2 = some (.int .i64 x) := by simpa [Addr.add] using hcell2
  have hl2 : (0 : Int) < (WK.length : Int) := by have := HWL.out; omega
  have hl2' : 0 < WK.length := by have := HWL.out; omega
  have z1 : (x != x) = false := by simp
  obtain ⟨ad', ea, _, _, hcell⟩ := (HX.out _ B_3.out) kk n5
  obtain rfl := Option.some.inj ea
  have kb0 : (0 : Int) ≤ (kk : Int) := by omega
  have kb1 : (kk : Int) < (xs.length : Int) := by omega
  generalize xs.getD kk 0 = nk at *
  have HSB := Lib.hid (HSUB.out nk)
  have HLB := Lib.hid (HLS.out nk)
  clear HSUB HLS
  go_upto_region 12 with (fail)
  clear e1 e1' hcell2 hcell3 hl2 hl2' hcell HW0 z1
  have HBL := B_3
  have HWL2 := Lib.hid W_3.out.hasAt.2.2
  clear B_3 W_3
  generalize w10 = wl at *
  obtain ⟨B0, hB0⟩ : ∃ B0, wl.heap.size = B0 := ⟨_, rfl⟩
  rw [hB0] at HWL2
  have HB0 : Hid (wl.heap.size = B0) := Lib.hid hB0
  clear hB0
  have HWC : Hid (∀ W, Below B0 wl W → Has W 0 B0 (some ad2) WK) := Lib.hid (fun W hb => (HWL2.out.wide (Nat.zero_le _) (Nat.le_refl _)).on hb (Nat.le_refl _))
  have HXC : Hid (∀ W, Below B0 wl W → Has W 0 w.heap.size (some ad) xs) := Lib.hid (fun W hb => HX.out W (HBL.out.trans (hb.mono (by rw [← HB0.out]; exact HBL.out.size))))
  have HBC : Hid (∀ W, Below B0 wl W → Below w.heap.size w W) := Lib.hid (fun W hb => HBL.out.trans (hb.mono (by rw [← HB0.out]; exact HBL.out.size)))
  have HF1 : Hid (∀ i, i < xs.length → (xs.take (i + 1)).filter (fun y => decide (y ≠ nk)) = if xs.getD i 0 = nk then (xs.take i).filter (fun y => decide (y ≠ nk)) else (xs.take i).filter (fun y => decide (y ≠ nk)) ++ [xs.getD i 0]) := Lib.hid (fun i hi => filt_snoc xs i hi nk)
  have HF2 : Hid (∀ i, i < xs.length → (WK.take (i + 1)).filter (fun y => decide (y ≠ nk)) = if WK.getD i 0 = nk then (WK.take i).filter (fun y => decide (y ≠ nk)) else (WK.take i).filter (fun y => decide (y ≠ nk)) ++ [WK.getD i 0]) := Lib.hid (fun i hi => filt_snoc WK i (by rw [HWL.out]; exact hi) nk)
  have HE1 : Hid ((xs.take xs.length).filter (fun y => decide (y ≠ nk)) = xs.filter (fun y => decide (y ≠ nk))) := Lib.hid (by rw [List.take_length])
  have HE2 : Hid ((WK.take xs.length).filter (fun y => decide (y ≠ nk)) = WK.filter (fun y => decide (y ≠ nk))) := Lib.hid (by rw [← HWL.out, List.take_length])
  obtain ⟨F1, hF1⟩ : ∃ F1 : Nat → List Int, F1 = fun i => (xs.take i).filter (fun y => decide (y ≠ nk)) := ⟨_, rfl⟩
  obtain ⟨F2, hF2⟩ : ∃ F2 : Nat → List Int, F2 = fun i => (WK.take i).filter (fun y => decide (y ≠ nk)) := ⟨_, rfl⟩
  have hF1e : ∀ i, (xs.take i).filter (fun y => decide (y ≠ nk)) = F1 i := fun i => by rw [hF1]
  have hF2e : ∀ i, (WK.take i).filter (fun y => decide (y ≠ nk)) = F2 i := fun i => by rw [hF2]
  have HFL : Hid (∀ i, i ≤ xs.length → (F1 i).length ≤ 65 ∧ (F2 i).length ≤ 65) := Lib.hid (fun i hi => by rw [← hF1e, ← hF2e]; have h1 := (List.filter_sublist (p := (fun y => decide (y ≠ nk))) (l := xs.take i)).length_le; have h2 := (List.filter_sublist (p := (fun y => decide (y ≠ nk))) (l := WK.take i)).length_le; rw [List.length_take] at h1 h2; omega)
  have HZ : Hid (F1 0 = [] ∧ F2 0 = []) := Lib.hid (by rw [← hF1e, ← hF2e]; exact ⟨rfl, rfl⟩)
  simp only [hF1e, hF2e] at HF1 HF2 HE1 HE2
  clear hF1 hF2 hF1e hF2e
  go_wp2_with fail
  go_loopw [15, 16, 17] (fun u v i wr => ∃ a : Nat, i = .int .i64 a ∧ a ≤ xs.length ∧ Hid (Own wr B0 u (F2 a)) ∧ Hid (Own wr B0 v (F1 a)) ∧ Hid (Dis u v) ∧ Hid (Below B0 wl wr)) (fun _ _ i _ => xs.length - (intOf i).toNat)
  case atStart => exact ⟨0, rfl, Nat.zero_le _, Lib.hid (by rw [HZ.out.2]; exact Own.nil _ _), Lib.hid (by rw [HZ.out.1]; exact Own.nil _ _), Lib.hid (fun k hk => by cases hk), Lib.hid (Below.refl _ _)⟩
  case round =>
    obtain ⟨a, rfl, ha, HU, HV, HD, HB⟩ := hrel
    have hzB : B0 ≤ wr.heap.size := by have := HB.out.size; have := HB0.out; omega
    by_cases hlt : a < xs.length
    · have a0 : (0 : Int) ≤ (a : Int) := by omega
      have a1 : (a : Int) < (xs.length : Int) := by omega
      have a2 : (a : Int) < (WK.length : Int) := by have := HWL.out; omega
      have a2' : a < WK.length := by have := HWL.out; omega
      obtain ⟨ad', ea, _, _, hcx⟩ := (HXC.out _ HB.out) a hlt
      obtain rfl := Option.some.inj ea
      obtain ⟨ad', ea, _, _, hcw⟩ := (HWC.out _ HB.out) a a2'
      obtain rfl := Option.some.inj ea
      have hmany := HMY.out a hlt
      have HMC := Lib.hid (many_any (some ad2) c12 0 B0 WK (xs.getD a 0) wr (by have := HWL.out; omega) (HWC.out _ HB.out))
      rw [hmany] at HMC
      clear hmany
      have HN1a := Lib.hid (HF1.out a hlt)
      have HN2a := Lib.hid (HF2.out a hlt)
      have HFLa := Lib.hid (HFL.out a ha)
      have hHX := HXC
      have hHW := HWC
      have HCW : Hid (∀ W, Below B0 wl W → W.cell? (ad2.add a) = some (.int .i64 (WK.getD a 0))) := Lib.hid (fun W hb => by obtain ⟨ad3, e, _, _, h⟩ := HWC.out W hb a a2'; injection e with e; subst e; exact h)
      generalize hx1 : xs.getD a 0 = x1 at *
      generalize hx2 : WK.getD a 0 = x2 at *
      clear hx1 hx2
      skip
      by_cases p1 : x1 = nk
      · have q1 : (x1 != nk) = false := by simpa using p1
        have HN1b : Hid (F1 (a + 1) = F1 a) := Lib.hid (by rw [HN1a.out, if_pos p1])
        clear p1 HN1a
        by_cases p2 : x2 = nk
        · have q2 : (x2 != nk) = false := by simpa using p2
          have HN2b : Hid (F2 (a + 1) = F2 a) := Lib.hid (by rw [HN2a.out, if_pos p2])
          clear p2 HN2a
          go_wp2_with fail
          refine HMC.out.mono ?_
          rintro e w7 ⟨rfl, rfl⟩
          go_wp2_with fail
          go_roundw
          case rel => exact ⟨a + 1, by go_num, by omega, Lib.hid (by rw [HN2b.out]; exact HU.out), Lib.hid (by rw [HN1b.out]; exact HV.out), Lib.hid HD.out, Lib.hid HB.out⟩
          case measure => simp [intOf]; omega
        · have q2 : (x2 != nk) = true := by simpa using p2
          have HN2b : Hid (F2 (a + 1) = F2 a ++ [x2]) := Lib.hid (by rw [HN2a.out, if_neg p2])
          clear p2 HN2a
          go_wp2_with fail
          refine HMC.out.mono ?_
          rintro e w7 ⟨rfl, rfl⟩
          have hzB2 : B0 ≤ wr.heap.size := by have := HB.out.size; have := HB0.out; omega
          have HU2 := Lib.hid HU.out
          have HV2 := Lib.hid HV.out
          have HD2 := Lib.hid HD.out
          have HB2 := Lib.hid (HB.out)
          go_wp2_with (at_builtin; refine append_one rfl _ _ rfl B0 u15 (F2 a) rfl (HU2.out.alloc _) wr.heap.size x2 rfl (by go_simp) (by have := HFLa.out.2; omega) (by simp; omega) ?_; intro v9 w9 ho9 hg9 he9)
          go_roundw
          case rel => exact ⟨a + 1, by go_num, by omega, Lib.hid (by rw [HN2b.out]; exact ho9), Lib.hid (by rw [HN1b.out]; exact ((HV2.out.alloc _).grown hg9 HD2.out.symm)), Lib.hid (dis_after (HV2.out.alloc _) HD2.out.symm he9).symm, Lib.hid (below_grownO (HB2.out.alloc hzB2 _) (HU2.out.alloc _) hg9 (by simp; omega) (Nat.le_refl _))⟩
          case measure => simp [intOf]; omega
      · have q1 : (x1 != nk) = true := by simpa using p1
        have HN1b : Hid (F1 (a + 1) = F1 a ++ [x1]) := Lib.hid (by rw [HN1a.out, if_neg p1])
        clear p1 HN1a
        by_cases p2 : x2 = nk
        · have q2 : (x2 != nk) = false := by simpa using p2
          have HN2b : Hid (F2 (a + 1) = F2 a) := Lib.hid (by rw [HN2a.out, if_pos p2])
          clear p2 HN2a
          go_wp2_with fail
          refine HMC.out.mono ?_
          rintro e w7 ⟨rfl, rfl⟩
          go_wp2_with (at_builtin; refine append_one rfl _ _ rfl B0 u16 (F1 a) rfl (HV.out.alloc _) wr.heap.size x1 rfl (by go_simp) (by have := HFLa.out.1; omega) (by simp; omega) ?_; intro v' w8 ho8 hg8 he8; have HB8 : Hid (Below B0 wl w8) := Lib.hid (below_grownO (HB.out.alloc hzB _) (HV.out.alloc _) hg8 (by simp; omega) (Nat.le_refl _)); have hcw8 := HCW.out _ HB8.out)
          go_roundw
          case rel => exact ⟨a + 1, by go_num, by omega, Lib.hid (by rw [HN2b.out]; exact ((HU.out.alloc _).grown hg8 HD.out)), Lib.hid (by rw [HN1b.out]; exact ho8), Lib.hid (dis_after (HU.out.alloc _) HD.out he8), Lib.hid HB8.out⟩
          case measure => simp [intOf]; omega
        · have q2 : (x2 != nk) = true := by simpa using p2
          have HN2b : Hid (F2 (a + 1) = F2 a ++ [x2]) := Lib.hid (by rw [HN2a.out, if_neg p2])
          clear p2 HN2a
          go_wp2_with fail
          refine HMC.out.mono ?_
          rintro e w7 ⟨rfl, rfl⟩
          go_upto_region 20 with (at_builtin; refine append_one rfl _ _ rfl B0 u16 (F1 a) rfl (HV.out.alloc _) wr.heap.size x1 rfl (by go_simp) (by have := HFLa.out.1; omega) (by simp; omega) ?_; intro v' w8 ho8 hg8 he8; have HB8 : Hid (Below B0 wl w8) := Lib.hid (below_grownO (HB.out.alloc hzB _) (HV.out.alloc _) hg8 (by simp; omega) (Nat.le_refl _)); have hcw8 := HCW.out _ HB8.out)
          have hzB2 : B0 ≤ w8.heap.size := by have := HB8.out.size; have := HB0.out; omega
          have HU2 := Lib.hid ((HU.out.alloc _).grown hg8 HD.out)
          have HV2 := Lib.hid ho8
          have HD2 := Lib.hid (dis_after (HU.out.alloc _) HD.out he8)
          have HB2 := Lib.hid (HB8.out)
          go_wp2_with (at_builtin; refine append_one rfl _ _ rfl B0 u15 (F2 a) rfl (HU2.out.alloc _) w8.heap.size x2 rfl (by go_simp) (by have := HFLa.out.2; omega) (by simp; omega) ?_; intro v9 w9 ho9 hg9 he9)
          go_roundw
          case rel => exact ⟨a + 1, by go_num, by omega, Lib.hid (by rw [HN2b.out]; exact ho9), Lib.hid (by rw [HN1b.out]; exact ((HV2.out.alloc _).grown hg9 HD2.out.symm)), Lib.hid (dis_after (HV2.out.alloc _) HD2.out.symm he9).symm, Lib.hid (below_grownO (HB2.out.alloc hzB2 _) (HU2.out.alloc _) hg9 (by simp; omega) (Nat.le_refl _))⟩
          case measure => simp [intOf]; omega
    · obtain rfl : a = xs.length := by omega
      rw [HE2.out] at HU
      rw [HE1.out] at HV
      have hll : (xs.filter (fun y => decide (y ≠ nk))).length ≤ xs.length := List.filter_sublist.length_le
      have HNO := HN1.out
      have hpos2 : 0 < (xs.filter (fun y => decide (y ≠ nk))).length → errP (ptsP (xs.filter (fun y => decide (y ≠ nk))) N) = 0 := fun h => err_pts HSB.out (by omega) (by omega) h
      have hpl : (ptsP (xs.filter (fun y => decide (y ≠ nk))) N).length ≤ 100000 := by rw [pts_len]; have := Nat.mul_le_mul (show (xs.filter (fun y => decide (y ≠ nk))).length ≤ 65 by omega) HNO.2; omega
      have HWX := HLB
      have HP3 := Lib.hid (fun (A : Option Addr) (c lo hi : Nat) (W : World) (h : Has W lo hi A (xs.filter (fun y => decide (y ≠ nk)))) (hh : hi ≤ W.heap.size) => points_yes A c lo hi _ N W h hh HSB.out (by omega) (by omega))
      have HW3 := Lib.hid (fun (h0 : 0 < (xs.filter (fun y => decide (y ≠ nk))).length) (A : Option Addr) (c : Nat) (W : World) (h : Ps W A (ptsP (xs.filter (fun y => decide (y ≠ nk))) N)) => walk_any A c _ k W hpl h (by unfold maxLen; omega) 0 (hpos2 h0))
      rw [if_pos rfl, HLB.out] at HW3
      have HBW := Lib.hid (HBC.out _ HB.out)
      have hwll : (WK.filter (fun y => decide (y ≠ nk))).length ≤ 65 := Nat.le_trans List.filter_sublist.length_le (by rw [HWL.out]; omega)
      clear HN1 HMY HF1 HF2 HZ HFL HE1 HE2 HLB HWX hpl hpos2 HNO HBC HXC HWC
      generalize ptsP (xs.filter (fun y => decide (y ≠ nk))) N = lb at *
      generalize xs.filter (fun y => decide (y ≠ nk)) = ys at *
      generalize WK.filter (fun y => decide (y ≠ nk)) = ws at *
      obtain ⟨AV, cV, rfl, hcV, hhV⟩ := HV.out.has
      clear hhV
      by_cases hy0 : ys.length = 0
      · have z0 : ((ys.length : Int) == 0) = true := by simpa using hy0
        have z0' : (ys.length == 0) = true := by simpa using hy0
        clear hy0
        go_wp2_with fail
        refine (awake_any _).mono ?_
        rintro e w7 ⟨rfl, hb⟩
        go_wp2_with fail
        go_ret
        exact ⟨rfl, HBW.out.trans (hb.mono HBW.out.size)⟩
      · have z0 : ((ys.length : Int) == 0) = false := by simpa using hy0
        have z0' : (ys.length == 0) = false := by simpa using hy0
        have HW4 := Lib.hid (HW3.out (by omega))
        clear hy0 HW3
        obtain ⟨AU, cU, rfl, hcU, hhU⟩ := HU.out.has
        clear hhU
        go_wp2_with fail
        refine (HP3.out _ _ _ _ _ HV.out.hasAt.2.2 (Nat.le_refl _)).mono ?_
        rintro e w20 ⟨v20, rfl, ho20, hb⟩
        have B_4 := Lib.hid (HBW.out.trans (hb.mono HBW.out.size))
        have U_4 := Lib.hid (HU.out.on hb)
        have V_4 := Lib.hid (HV.out.on hb)
        clear HBW HU HV
        clear hb
        clear V_4
        obtain ⟨A20, c20, rfl, hc20, hp20⟩ := ho20.lst
        have HA20 := Lib.hid hp20
        clear ho20 hp20 HP3
        go_wp2_with fail
        refine (HW4.out _ _ _ HA20.out).mono ?_
        rintro e w21 ⟨v21, rfl, ho21, hb⟩
        have B_5 := Lib.hid (B_4.out.trans (hb.mono B_4.out.size))
        have U_5 := Lib.hid (U_4.out.on hb)
        have A_5 := Lib.hid (HA20.out.on hb)
        clear B_4 U_4 HA20
        clear hb
        clear HW4
        clear A_5
        obtain ⟨A21, c21, rfl, hc21, hh21⟩ := ho21.has
        have HS := Lib.hid hh21
        clear ho21 hh21
        go_wp2_with fail
        refine (same_any A21 AU c21 cU _ _ _ _ ws ws _ (by omega) HS.out U_5.out.hasAt.2.2 true (by simp)).mono ?_
        rintro e w22 ⟨rfl, hb⟩
        have HB22 := Lib.hid (B_5.out.trans (hb.mono B_5.out.size))
        clear hb HS
        go_wp2_with fail
        refine (awake_any _).mono ?_
        rintro e w7 ⟨rfl, hb⟩
        go_wp2_with fail
        go_ret
        exact ⟨rfl, HB22.out.trans (hb.mono HB22.out.size)⟩

theorem parOk : ∀ t ∈ (#[50] : Array TypeId).toList, Tryd.prog.readableRec t = true ∧ t < Tryd.prog.types.size := by
  have hall : ([50].all fun t => Tryd.prog.readableRec t && decide (t < Tryd.prog.types.size)) = true := by kernel_rfl
  intro t ht
  simpa using List.all_eq_true.1 hall t ht

set_option maxRecDepth 100000 in
/-- What the walk gives, for every argument and every world that holds the table. -/
theorem contract (H : Type) (enc : TypeId × Value → H) (W : World) (base : Nat) (args : Array Value) (ds gs : List (DataW H)) (before : List MemPlace)
    (hval : ∀ (j : Nat) t v, Tryd.f5.params[j]? = some t → args[j]? = some v → Value.okWide Tryd.prog W .any base t v)
    (hW : DataW.Whole enc Tryd.prog Tryd.f5.params.toList Rows.ringWalksSpec.vars false W args.toList ds gs before) (_ : laidMetH Tryd.prog Rows.ringWalksRow.laid W) :
    Calls Tryd.prog 5 args W fun e W' => ∃ v, e = .returned v ∧ Rows.ringWalksSpec.post enc Tryd.prog Tryd.f5 false true false false W args v W' := by
  have hW' := hW
  obtain ⟨p, q, hA0, hV, rfl, hfz, hnd⟩ := hW
  have hA : DataW.TrodAll enc Tryd.prog W 0 (fun _ => true) true Tryd.f5.params.toList args.toList ds p := hA0
  rw [Tryd.params5] at hA hval
  obtain ⟨v0, vs0, d0, ds0, p0, q0, hargs, rfl, rfl, h0, r0⟩ := trodAll_cons hA
  obtain ⟨rfl, rfl, rfl⟩ := trodAll_nil r0
  obtain rfl : args = #[v0] := by cases args; simp_all
  obtain ⟨rfl, rfl⟩ := trodVars_none hV
  obtain ⟨A, c, xs, a, b, s, rfl, hc, hm, hx, ha, hb, hk⟩ := open_gone (hval 0 50 v0 rfl rfl) h0
  clear hA0
  refine (walk A c xs a b s W hc hm hx ha hb hk).mono fun e W' ⟨he, hb⟩ => ?_
  subst he
  exact ⟨_, rfl, law_post rfl (by rw [Tryd.params5]; exact parOk) rfl hW' rfl rfl rfl hb⟩

set_option maxRecDepth 100000 in
theorem laid_met (os : Os) : laidMet Tryd.prog Rows.ringWalksRow.laid ((laidWorld os).forCall (fun _ _ => 0) ⟨#[], #[.agg #[.slice none 0 0, .int .u8 0, .int .u8 0, .string ⟨#[]⟩]], []⟩).memory :=
  laidMet_of_run' 8 (by kernel_rfl) (by kernel_rfl)
set_option maxRecDepth 100000 in
theorem reads (os : Os) {H : Type} (enc : TypeId × Value → H) : ∃ places, DataW.whole enc Tryd.prog ((laidWorld os).forCall (fun _ _ => 0) ⟨#[], #[.agg #[.slice none 0 0, .int .u8 0, .int .u8 0, .string ⟨#[]⟩]], []⟩).memory Tryd.f5.params.toList Rows.ringWalksSpec.vars false (#[.agg #[.slice none 0 0, .int .u8 0, .int .u8 0, .string ⟨#[]⟩]] : Array Value).toList 8 = some ([.agg [.nil, .lit (.int .u8 0), .lit (.int .u8 0), .lit (.string [])]], [], places) :=
  ⟨[], by kernel_rfl⟩

set_option maxRecDepth 100000 in
theorem lifted (os : Os) (started : os.Started) (H : Type) (enc : TypeId × Value → H) (F : Stop.Interp) :
    ReturnsInHanded {} Tryd.checked os 5 .any ((OpenSpec.ofChange Rows.ringWalksSpec).preRow enc Tryd.prog Tryd.f5 Rows.ringWalksRow.domain false Rows.ringWalksRow.laid) (((OpenSpec.ofChange Rows.ringWalksSpec).at F).post enc Tryd.prog Tryd.f5 false true false false) := by
  obtain ⟨places, hx⟩ := reads os enc
  refine returnsInHanded_of_row (C := Tryd.checked) (s := OpenSpec.ofChange Rows.ringWalksSpec) own started (by kernel_rfl) Tryd.func5
    (witness_row_at (enc := enc) (C := Tryd.checked) false (laidWorld os) #[.agg #[.slice none 0 0, .int .u8 0, .int .u8 0, .string ⟨#[]⟩]] rfl (by kernel_rfl) (by kernel_rfl) (by kernel_rfl)
      (OpenSpec.preRow_of_cond 8 hx (by kernel_rfl) (fun k hk => by cases hk) (by kernel_rfl) (laid_met os))) ?_
  intro W base args ds gs before hval hW _ _ _ hL _ _
  exact contract H enc W base args ds gs before hval hW hL

theorem said : Rows.RingWalksSaid :=
  OpenClaim.holds_of_cond 5 Tryd.f5 rfl rfl rfl rfl rfl rfl rfl ⟨rfl, rfl, rfl, rfl, rfl⟩ rfl rfl rfl rfl rfl (by kernel_rfl) Tryd.func5 (by kernel_rfl)
    (of_decide_eq_true (by kernel_rfl)) (by unfold Func.isWrapper; first | (rw [if_pos (by decide +kernel)]; kernel_rfl) | (rw [if_neg (by decide +kernel)]; exact ⟨rfl, rfl⟩))
    (fun os started H enc _ F => by rw [OpenClaim.pre_eq_preRow]; exact lifted os started H enc F)

/-- No parameter wants a stand-in; the program's own looks are off. -/
theorem plain (f : FuncId) (fn : Func) (hf : Tryd.pinned.checked.prog.funcNamed "tattle/tattlelaw13.RingWalks" = some f) (hfn : Tryd.pinned.checked.prog.funcs[f]? = some fn) :
    false = Tryd.pinned.checked.prog.looks [] ∧ ∀ (j : Nat) t, fn.params[j]? = some t → Tryd.pinned.checked.prog.wantsStandIn t = false := by
  obtain rfl : f = 5 := Option.some.inj ((show Tryd.prog.funcNamed "tattle/tattlelaw13.RingWalks" = some 5 by kernel_rfl).symm.trans hf) |>.symm
  obtain rfl : fn = Tryd.f5 := (Option.some.inj (Tryd.func5.symm.trans hfn)).symm
  refine ⟨by kernel_rfl, fun j t ht => ?_⟩
  rw [Tryd.params5] at ht
  have hm : t ∈ [50] := by simpa using Array.mem_of_getElem? ht
  have hall : ([50].all fun u => !Tryd.prog.wantsStandIn u) = true := by kernel_rfl
  exact (show Tryd.prog.wantsStandIn t = false by simpa using List.all_eq_true.1 hall t hm)

/-- THE CARD. -/
theorem card : Rows.RingWalksCardSaid :=
  Claim7.holds_tied_plain_at .later [] _ _ _ _ said (fun _ h => by cases h) (by kernel_rfl) (fun _ h => by cases h) ringWalks_row_tie rfl ⟨rfl, rfl⟩ (by kernel_rfl) rfl plain (by kernel_rfl)
end Go.Proofs.YtjmjeaipdfmglaaDoor.lawWalks
