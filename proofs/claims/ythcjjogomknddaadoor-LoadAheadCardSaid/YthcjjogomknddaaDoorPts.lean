/-
  The walk of Points.
-/
import Derived.Test.YthcjjogomknddaaDoorSort
namespace Go.Proofs.YthcjjogomknddaaDoor
open Go.Sort Go.RowKit Go.Proofs.YthcjjogomknddaaDoor.Pure

theorem below_grownP {B : Nat} {w0 w w' : World} {v : Value} {xs : List Pt} (hb : Below B w0 w) (ho : OwnP w B v xs) (hg : w.grownBy w' v.ownBlock) (hB : B ≤ w.heap.size) : Below B w0 w' :=
  hb.grown hg hB (fun k hk => (ho.ge k hk).1)

set_option maxRecDepth 100000 in
set_option maxHeartbeats 2000000 in
theorem points_no (A : Option Addr) (c lo hi : Nat) (xs : List Int) (s : Int) (w : World) (hn : xs.length ≤ 100000) (h : Has w lo hi A xs) (hh : hi ≤ w.heap.size) (hL : nodesB xs = false ∨ s < 1 ∨ 32 < s) :
    Calls Tryd.prog 35 #[.slice A xs.length c, .int .i64 s] w fun e w' => e = .returned (.tuple #[.slice none 0 0, .int .i64 1]) ∧ Below w.heap.size w w' := by
  obtain ⟨L, hLe⟩ : ∃ L, nodesB xs = L := ⟨_, rfl⟩
  have HN := Lib.hid (fun (W : World) (h : Has W lo hi A xs) (hh : hi ≤ W.heap.size) => nodes_t A c lo hi xs W hn h hh L hLe)
  rw [hLe] at hL
  have H := Lib.hid h
  clear h hLe
  rcases L with _ | _
  · clear hL
    go_enter Tryd.func35, Tryd.ntmps35
    go_wp2_with fail
    refine (HN.out _ H.out hh).mono ?_
    rintro e w1 ⟨rfl, hb1⟩
    go_wp2_with fail
    exact bodyPost_ret (v := .tuple #[.slice none 0 0, .int .i64 1]) (by simp [results, Tryd.results35, go_sem]) rfl ⟨rfl, hb1⟩
  · by_cases h1 : s < 1
    · have e1 : decide (s < 1) = true := decide_eq_true h1
      clear hL
      go_enter Tryd.func35, Tryd.ntmps35
      go_wp2_with fail
      refine (HN.out _ H.out hh).mono ?_
      rintro e w1 ⟨rfl, hb1⟩
      go_wp2_with fail
      exact bodyPost_ret (v := .tuple #[.slice none 0 0, .int .i64 1]) (by simp [results, Tryd.results35, go_sem]) rfl ⟨rfl, hb1⟩
    · have e1 : decide (s < 1) = false := decide_eq_false h1
      have h2 : 32 < s := by
        rcases hL with hL | hL | hL
        · cases hL
        · exact absurd hL h1
        · exact hL
      have e2 : decide (32 < s) = true := decide_eq_true h2
      clear hL
      go_enter Tryd.func35, Tryd.ntmps35
      go_wp2_with fail
      refine (HN.out _ H.out hh).mono ?_
      rintro e w1 ⟨rfl, hb1⟩
      go_wp2_with fail
      exact bodyPost_ret (v := .tuple #[.slice none 0 0, .int .i64 1]) (by simp [results, Tryd.results35, go_sem]) rfl ⟨rfl, hb1⟩

set_option maxRecDepth 100000 in
set_option maxHeartbeats 4000000 in
theorem points_yes (A : Option Addr) (c lo hi : Nat) (xs : List Int) (s : Nat) (w : World) (h : Has w lo hi A xs) (hh : hi ≤ w.heap.size) (hL : nodesB xs = true) (hs1 : 1 ≤ s) (hs2 : s ≤ 32) :
    Calls Tryd.prog 35 #[.slice A xs.length c, .int .i64 (s : Int)] w fun e w' => ∃ v, e = .returned (.tuple #[v, .int .i64 0]) ∧ OwnP w' w.heap.size v (ptsP xs s) ∧ Below w.heap.size w w' := by
  have hnum := nodesB_nums hL
  have hlen := nums_len xs hnum
  have HN := Lib.hid (fun (W : World) (h : Has W lo hi A xs) (hh : hi ≤ W.heap.size) => nodes_t A c lo hi xs W (by omega) h hh true hL)
  have H := Lib.hid h
  have HX : Hid (∀ k, k < xs.length → ∃ n : Nat, xs.getD k 0 = (n : Int) ∧ n < 100) := Lib.hid fun k hk => by
    have := ((numsB_iff _).1 hnum).1 _ (getD_mem xs k hk)
    exact ⟨(xs.getD k 0).toNat, by omega, by omega⟩
  have HS := Lib.hid (fun (v : Value) (B : Nat) (W : World) (h : OwnP W B v (rawP xs s)) => sort_pts (rawP xs s) B v W (by rw [raw_len]; have := Nat.mul_le_mul hlen hs2; omega) h)
  have HR1 := Lib.hid (rawAt_zero xs s)
  have HR2 := Lib.hid (rawAt_snoc xs s)
  have HR3 := Lib.hid (rawAt_next xs s)
  have HR4 := Lib.hid (rawAt_all xs s)
  have HR5 : Hid (∀ k i, k ≤ xs.length → i ≤ s → (rawAt xs s k i).length ≤ 3000) := Lib.hid fun k i hk hi => by
    rw [rawAt_len xs s k i hk]
    have := Nat.mul_le_mul (Nat.le_trans hk hlen) hs2
    omega
  have e1 : decide ((s : Int) < 1) = false := decide_eq_false (by omega)
  have e2 : decide ((32 : Int) < (s : Int)) = false := decide_eq_false (by omega)
  have e2' : decide (32 < s) = false := decide_eq_false (by omega)
  have e1' : decide (s < 1) = false := decide_eq_false (by omega)
  clear h hL hnum
  have HP : Hid (ptsP xs s = srtP (rawP xs s)) := Lib.hid rfl
  generalize ptsP xs s = P at *
  generalize srtP (rawP xs s) = P' at *
  generalize rawP xs s = R at *
  generalize rawAt xs s = RA at *
  go_enter Tryd.func35, Tryd.ntmps35
  go_wp2_with fail
  refine (HN.out _ H.out hh).mono ?_
  rintro e w1 ⟨rfl, hb1⟩
  go_wp2_with fail
  go_loopw [6, 23] (fun l i wr => ∃ k : Nat, i = .int .i64 k ∧ k ≤ xs.length ∧ Hid (OwnP wr w.heap.size l (RA k 0)) ∧ Hid (Below w.heap.size w wr)) (fun _ i _ => xs.length - (intOf i).toNat)
  case atStart => exact ⟨0, rfl, Nat.zero_le _, Lib.hid (by rw [HR1.out]; exact OwnP.nil _ _), Lib.hid hb1⟩
  case round =>
    clear hb1
    obtain ⟨k, rfl, hk, HO, HB⟩ := hrel
    by_cases hlt : k < xs.length
    · have k0 : (0 : Int) ≤ (k : Int) := by omega
      have k1 : (k : Int) < (xs.length : Int) := by omega
      obtain ⟨ad, rfl, _, _, hc⟩ := (H.out.on HB.out hh) k hlt
      obtain ⟨n, hxn, hn100⟩ := HX.out k hlt
      have HR2k := Lib.hid (fun i => HR2.out k i)
      have HR3k := Lib.hid (HR3.out k hlt)
      rw [hxn] at hc HR2k
      clear hxn
      go_wp2_with fail
      obtain ⟨wq, eq⟩ : ∃ wq, wq = wr := ⟨_, rfl⟩
      subst eq
      go_loopw [6, 28] (fun l i wr => ∃ j : Nat, i = .int .i64 j ∧ j ≤ s ∧ Hid (OwnP wr w.heap.size l (RA k j)) ∧ Hid (Below w.heap.size w wr)) (fun _ i _ => s - (intOf i).toNat)
      case atStart => exact ⟨0, rfl, Nat.zero_le _, HO, HB⟩
      case round =>
        clear HO HB hc
        obtain ⟨j, rfl, hj, HO, HB⟩ := hrel
        by_cases hjs : j < s
        · have j1 : (j : Int) < (s : Int) := by omega
          have HC := Lib.hid (fun W => point_any n j W hn100 (by omega))
          have HRj := Lib.hid (HR2k.out j)
          have HL5 := Lib.hid (HR5.out k j hk hj)
          have HM : Hid (mkP (n : Int) j = ⟨hashP n j, n, j⟩) := Lib.hid (by unfold mkP; simp)
          rw [HM.out] at HRj
          generalize hashP n j = hz at *
          clear HM
          go_wp2_with fail
          refine (HC.out _).mono ?_
          rintro e w2 ⟨rfl, hb2⟩
          have HO2 := Lib.hid (HO.out.on (hb2))
          have HB2 := Lib.hid (HB.out.trans (hb2.mono HB.out.size))
          clear HO HB hb2 HC
          go_wp2_with (at_builtin; refine wpList_appendPt rfl _ _ rfl w.heap.size u6 (RA k j) rfl (HO2.out.alloc _) (some ⟨w2.heap.size, 0, none⟩) 1 [⟨hz, n, j⟩] rfl (Ps.one w2 ⟨hz, n, j⟩ _) (by have := HL5.out; simp; omega) (by have := HB2.out.size; simp; omega) ?_; intro v' w4 ho4 hg4)
          go_roundw
          case rel => exact ⟨j + 1, by go_num, by omega, Lib.hid (by rw [HRj.out]; exact ho4), Lib.hid (below_grownP (HB2.out.alloc HB2.out.size _) (HO2.out.alloc _) hg4 (by have := HB2.out.size; simp; omega))⟩
          case measure => simp [intOf]; omega
        · obtain rfl : j = s := by omega
          clear HX HR2k
          go_wp2_with fail
          go_roundw
          case rel => exact ⟨k + 1, by go_num, by omega, Lib.hid (by rw [← HR3k.out]; exact HO.out), HB⟩
          case measure => simp [intOf]; omega
    · obtain rfl : k = xs.length := by omega
      rw [HR4.out] at HO
      clear HX HR2 HR3
      go_wp2_with fail
      refine (HS.out _ _ _ HO.out).mono ?_
      rintro e w2 ⟨rfl, ho2, hg2⟩
      go_wp2_with fail
      exact bodyPost_ret (v := .tuple #[u6, .int .i64 0]) (by simp [results, Tryd.results35, go_sem]) rfl ⟨_, rfl, by rw [HP.out]; exact ho2, below_grownP HB.out HO.out hg2 HB.out.size⟩
end Go.Proofs.YthcjjogomknddaaDoor
