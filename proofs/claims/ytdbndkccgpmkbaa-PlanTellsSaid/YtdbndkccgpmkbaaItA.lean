/-
  The iterator that goes through two lists at once, in a loop over it.
-/
import Derived.Test.YtdbndkccgpmkbaaKq
namespace Go.Proofs.Ytdbndkccgpmkbaa
open Go.Sort Go.RowKit Go.Proofs.Ytdbndkccgpmkbaa.Pure
attribute [local go_sem] Oper.semAt_some

set_option maxRecDepth 10000000 in
set_option maxHeartbeats 4000000 in
theorem itA_in (n l S c bz : Nat) (A B : Option Addr) (ca cb : Nat) (a : List Pu) (b : List Mv) (ha : a.length ≤ 100000) (hb : b.length ≤ 100000) (J Jx : List (Pu × Mv) → World → Prop)
    (hJ : ∀ pre w1 w2, J pre w1 → Below w1.heap.size w1 w2 → J pre w2)
    (hY : ∀ pre x W, J pre W → pre.length < (zipA Pu.t Mv.t zu zmv a b).length → YieldAt Fence.wide (n - 1) Try.prog l #[.agg #[.string x.1.t, .int .i64 x.1.n], .agg #[.string x.2.t, .int .i64 x.2.f, .int .i64 x.2.g]] W fun e W' =>
      (e = .returned (.bool true) ∧ J (pre ++ [x]) W' ∧ Kq S bz W W') ∨ (e = .returned (.bool false) ∧ Jx (pre ++ [x]) W'))
    (W : World) (hS : S ≤ W.heap.size)
    (HA : ∀ W', Kq S bz W W' → Us W' A a) (HB : ∀ W', Kq S bz W W' → Vs W' B b)
    (HC : ∀ W', Kq S bz W W' → W'.cell? ⟨c, 0, none⟩ = some (.slice A a.length ca) ∧ W'.cell? ⟨c + 1, 0, none⟩ = some (.slice B b.length cb) ∧ W'.cell? ⟨c + 2, 0, none⟩ = some (.func (.func 30) #[] #[]))
    (h0 : J [] W) :
    CallsIn Fence.wide n Try.prog 39 #[.func (.yield l) #[] #[], .pointer (some ⟨c, 0, none⟩), .pointer (some ⟨c + 1, 0, none⟩), .pointer (some ⟨c + 2, 0, none⟩)] W fun e W' => (∃ v, e = .returned v) ∧
      ((∃ ys, ys = zipA Pu.t Mv.t zu zmv a b ∧ J ys W') ∨ (∃ pre, pre <+: zipA Pu.t Mv.t zu zmv a b ∧ Jx pre W')) := by
  have HJ := Lib.hid hJ
  have HY := Lib.hid hY
  have HAA := Lib.hid HA
  have HBB := Lib.hid HB
  have HCC := Lib.hid HC
  have H0 := Lib.hid h0
  clear hJ hY HA HB HC h0
  refine callsIn_of_wp Try.func39 rfl trivial ?_ rfl
  simp only [Try.ntmps39, List.size_toArray, List.length_cons, List.length_nil, Nat.reduceAdd, Nat.reduceSub, Array.replicate_succ, Array.replicate_zero, List.push_toArray, List.append_toArray, List.nil_append, List.cons_append]
  gi_wp2
  gi_loopw [5, 6] (fun i j wr => ∃ (i' j' : Nat) (pre : List (Pu × Mv)), i = .int .i64 i' ∧ j = .int .i64 j' ∧ i' ≤ a.length ∧ j' ≤ b.length ∧ Hid (zipA Pu.t Mv.t zu zmv a b = pre ++ zipA Pu.t Mv.t zu zmv (a.drop i') (b.drop j')) ∧ Hid (J pre wr) ∧ Hid (Kq S bz W wr))
    (fun i j _ => (a.length - (intOf i).toNat) + (b.length - (intOf j).toNat))
  case atStart => exact ⟨0, 0, [], rfl, rfl, Nat.zero_le _, Nat.zero_le _, Lib.hid (by simp), H0, Lib.hid (Kq.refl _ _ _)⟩
  case round =>
    obtain ⟨i, j, pre, rfl, rfl, hi, hj, hp, hJs, hk⟩ := hrel
    obtain ⟨c1, c2, c3⟩ := HCC.out wr hk.out
    by_cases hil : i < a.length
    · by_cases hjl : j < b.length
      · obtain ⟨ad, rfl, hlo, h1⟩ := (HAA.out wr hk.out) i hil
        obtain ⟨ad', rfl, hlo', h2⟩ := (HBB.out wr hk.out) j hjl
        obtain ⟨z, hz⟩ : ∃ z, cmpS (pu a i).t (mv b j).t = z := ⟨_, rfl⟩
        have hz3 : z = -1 ∨ z = 0 ∨ z = 1 := by
          rw [← hz, cmpS_is]
          split
          · exact .inl rfl
          · split
            · exact .inr (.inr rfl)
            · exact .inr (.inl rfl)
        have HN := Lib.hid (zipA_at (kx := Pu.t) (ky := Mv.t) (za := zu) (zb := zmv) a b zu zmv i j hi hj (Or.inl hil) z ((whoZ_both a b zu zmv i j hil hjl).trans hz))
        have HO : Hid (∀ p : Regrown, Calls Try.prog 30 #[.agg #[.string (pu a i).t, .int .i64 (pu a i).n], .agg #[.string (mv b j).t, .int .i64 (mv b j).f, .int .i64 (mv b j).g]] (grow (redrawn wr p.d) p.os) fun e w' => e = .returned (.int .i64 z) ∧ Below (grow (redrawn wr p.d) p.os).heap.size (grow (redrawn wr p.d) p.os) w') := Lib.hid (fun p => by rw [← hz]; exact ordA_any _ _ _)
        have e1 : decide ((i : Int) < (a.length : Int)) = true := by simp; omega
        have e2 : ((i : Int) == (a.length : Int)) = false := by simp; omega
        have e3 : ((j : Int) == (b.length : Int)) = false := by simp; omega
        have i0 : (0 : Int) ≤ (i : Int) := by omega
        have j0 : (0 : Int) ≤ (j : Int) := by omega
        have i1 : (i : Int) < (a.length : Int) := by omega
        have j1 : (j : Int) < (b.length : Int) := by omega
        obtain ⟨a0, a1⟩ := h1.flat
        have a0r : ∀ p : Regrown, (grow (redrawn wr p.d) p.os).cell? (ad.add (i * 2)) = some (.string (pu a i).t) := fun p => cell_regrown a0 p.d p.os
        have a1r : ∀ p : Regrown, (grow (redrawn wr p.d) p.os).cell? ⟨(ad.add (i * 2)).block, (ad.add (i * 2)).off + 1, none⟩ = some (.int .i64 (pu a i).n) := fun p => cell_regrown a1 p.d p.os
        obtain ⟨b0, b1, b2⟩ := h2.flat
        have b0r : ∀ p : Regrown, (grow (redrawn wr p.d) p.os).cell? (ad'.add (j * 3)) = some (.string (mv b j).t) := fun p => cell_regrown b0 p.d p.os
        have b1r : ∀ p : Regrown, (grow (redrawn wr p.d) p.os).cell? ⟨(ad'.add (j * 3)).block, (ad'.add (j * 3)).off + 1, none⟩ = some (.int .i64 (mv b j).f) := fun p => cell_regrown b1 p.d p.os
        have b2r : ∀ p : Regrown, (grow (redrawn wr p.d) p.os).cell? ⟨(ad'.add (j * 3)).block, (ad'.add (j * 3)).off + 2, none⟩ = some (.int .i64 (mv b j).g) := fun p => cell_regrown b2 p.d p.os
        have d1 : ∀ p : Regrown, (grow (redrawn wr p.d) p.os).cell? ⟨c, 0, none⟩ = some (.slice (some ad) a.length ca) := fun p => cell_regrown c1 p.d p.os
        have d2 : ∀ p : Regrown, (grow (redrawn wr p.d) p.os).cell? ⟨c + 1, 0, none⟩ = some (.slice (some ad') b.length cb) := fun p => cell_regrown c2 p.d p.os
        have d3 : ∀ p : Regrown, (grow (redrawn wr p.d) p.os).cell? ⟨c + 2, 0, none⟩ = some (.func (.func 30) #[] #[]) := fun p => cell_regrown c3 p.d p.os
        clear hz
        gi_upto_region 3 with (fail)
        rw [wpIn_wide]
        refine q_enter (by kernel_rfl) (by kernel_rfl) ?_
        iterate 11 (refine q_step ?_; intro K hK; go_simp; first | (refine hK _ ?_; clear hK K) | (refine ⟨_, fun p => Calls.regrown_of (by with_reducible exact HO.out p), hK _ ?_⟩; clear hK K))
        refine q_nil ?_
        intro wz hbz
        have HBL := Lib.hid hbz
        clear hbz a0r a1r b0r b1r b2r d1 d2 d3 e1 e2 e3
        rcases hz3 with rfl | rfl | rfl
        · gi_upto_region 10 with (fail)
          obtain ⟨w4, hw4⟩ : ∃ w4, ((wz.alloc (.cells #[.string ⟨#[]⟩, .int .i64 0] 53)).alloc (.cells #[.string ⟨#[]⟩, .int .i64 0, .int .i64 0] 39)) = w4 := ⟨_, rfl⟩
          have hb4 : Below wz.heap.size wz w4 := by rw [← hw4]; exact ((Below.refl _ _).alloc (Nat.le_refl _) _).alloc (by simp) _
          have hx4 : Bu w4 wz.heap.size zu := by rw [← hw4]; exact (Bu.new wz zu _).alloc _
          have hy4 : BV w4 (wz.heap.size + 1) zmv := by rw [← hw4]; have := BV.new (wz.alloc (.cells #[.string ⟨#[]⟩, .int .i64 0] 53)) zmv 39; rwa [World.size_alloc] at this
          have fx0 : w4.frozen? ⟨wz.heap.size, 0, none⟩ = false := by subst hw4; go_simp
          have fx1 : w4.frozen? ⟨wz.heap.size, 1, none⟩ = false := by subst hw4; go_simp
          have fy0 : w4.frozen? ⟨wz.heap.size + 1, 0, none⟩ = false := by subst hw4; go_simp
          have fy1 : w4.frozen? ⟨wz.heap.size + 1, 1, none⟩ = false := by subst hw4; go_simp
          have fy2 : w4.frozen? ⟨wz.heap.size + 1, 2, none⟩ = false := by subst hw4; go_simp
          rw [hw4]
          clear hw4
          have hw5 : Below wr.heap.size wr w4 := HBL.out.trans (hb4.mono HBL.out.size)
          have g0 := (hw5.cell (p := ad.add (i * 2)) (by rw [block_add]; exact hlo)).trans a0
          have g1 := (hw5.cell (p := ⟨(ad.add (i * 2)).block, (ad.add (i * 2)).off + 1, none⟩) (by show (ad.add (i * 2)).block < _; rw [block_add]; exact hlo)).trans a1
          have k1 := (hw5.cell (World.block_lt_of_cell? _ _ c1)).trans c1
          have HX4 := Lib.hid hx4
          have HY4 := Lib.hid hy4
          have HB4 := Lib.hid hb4
          obtain ⟨x0, x1⟩ := hx4
          clear hy4 hb4 hw5
          gi_upto_region 13 with (fail)
          obtain ⟨w5, hw5⟩ : ∃ w5, (w4.setCell ⟨wz.heap.size, 0, none⟩ (.string (pu a i).t)).setCell ⟨wz.heap.size, 1, none⟩ (.int .i64 (pu a i).n) = w5 := ⟨_, rfl⟩
          have HX5 : Hid (Bu w5 wz.heap.size (pu a i)) := Lib.hid (by subst hw5; exact ⟨by go_simp, by go_simp⟩)
          have HY5 : Hid (BV w5 (wz.heap.size + 1) zmv) := Lib.hid (by subst hw5; obtain ⟨y0, y1, y2⟩ := HY4.out; exact ⟨by go_simp, by go_simp, by go_simp⟩)
          have HB5 : Hid (Below wz.heap.size wz w5) := Lib.hid (by subst hw5; exact (HB4.out.setCell (p := ⟨wz.heap.size, 0, none⟩) (Nat.le_refl _) _).setCell (p := ⟨wz.heap.size, 1, none⟩) (Nat.le_refl _) _)
          have gy0 : w5.frozen? ⟨wz.heap.size + 1, 0, none⟩ = false := by subst hw5; simp only [World.frozen?_setCell]; exact fy0
          have gy1 : w5.frozen? ⟨wz.heap.size + 1, 1, none⟩ = false := by subst hw5; simp only [World.frozen?_setCell]; exact fy1
          have gy2 : w5.frozen? ⟨wz.heap.size + 1, 2, none⟩ = false := by subst hw5; simp only [World.frozen?_setCell]; exact fy2
          rw [hw5]
          clear hw5 g0 g1 k1 x0 x1 HX4 HY4 HB4 fx0 fx1 fy0 fy1 fy2
          have hw6 : Below wr.heap.size wr w5 := HBL.out.trans (HB5.out.mono HBL.out.size)
          obtain ⟨y0, y1, y2⟩ := HY5.out
          clear hw6
          gi_upto_region 16 with (fail)
          have HX6 := HX5
          have HY6 := HY5
          have HB6 := HB5
          clear y0 y1 y2 gy0 gy1 gy2
          clear HX5 HY5 HB5
          have HBW : Hid (Below wr.heap.size wr w5) := Lib.hid (HBL.out.trans (HB6.out.mono HBL.out.size))
          have HP2 : Hid (zipA Pu.t Mv.t zu zmv a b = (pre ++ [(pu a i, zmv)]) ++ zipA Pu.t Mv.t zu zmv (a.drop (i + 1)) (b.drop j)) := Lib.hid (by rw [hp.out, HN.out.2.2]; simp [pu])
          have HI2 : Hid ((i + 1) ≤ a.length ∧ j ≤ b.length) := Lib.hid (by omega)
          have HKW : Hid (Kq S bz W w5) := Lib.hid (hk.out.trans (Kq.of HBW.out (by have := hk.out.size; omega)))
          obtain ⟨fn, tmps, assign, body, hy, hR⟩ := HY.out pre (pu a i, zmv) w5 (HJ.out _ _ _ hJs.out HBW.out) (by rw [HP2.out]; simp)
          dsimp only at hy
          obtain ⟨x0, x1⟩ := HX6.out
          obtain ⟨y0, y1, y2⟩ := HY6.out
          clear HX6 HY6 HB6 HBW hp hJs hk HN
          gi_wp2
          refine ⟨fun e => (by cases e), hR.mono ?_⟩
          rintro e W3 (⟨rfl, hJ3, hk3⟩ | ⟨rfl, hJx3⟩)
          · have HJ3 := Lib.hid hJ3
            have HK3 := Lib.hid (HKW.out.trans hk3)
            clear hJ3 hk3 hR hy
            gi_wp2
            go_roundw
            case rel => exact ⟨(i + 1), j, _, by go_num, by go_num, HI2.out.1, HI2.out.2, HP2, HJ3, HK3⟩
            case measure => simp [intOf]; have := HI2.out; omega
          · have HJ3 := Lib.hid hJx3
            clear hJx3 hR hy
            gi_wp2
            refine bodyPost_ret (results_none rfl _ _ _) rfl ?_
            exact ⟨⟨_, rfl⟩, .inr ⟨_, ⟨_, HP2.out.symm⟩, HJ3.out⟩⟩
        · gi_upto_region 10 with (fail)
          obtain ⟨w4, hw4⟩ : ∃ w4, ((wz.alloc (.cells #[.string ⟨#[]⟩, .int .i64 0] 53)).alloc (.cells #[.string ⟨#[]⟩, .int .i64 0, .int .i64 0] 39)) = w4 := ⟨_, rfl⟩
          have hb4 : Below wz.heap.size wz w4 := by rw [← hw4]; exact ((Below.refl _ _).alloc (Nat.le_refl _) _).alloc (by simp) _
          have hx4 : Bu w4 wz.heap.size zu := by rw [← hw4]; exact (Bu.new wz zu _).alloc _
          have hy4 : BV w4 (wz.heap.size + 1) zmv := by rw [← hw4]; have := BV.new (wz.alloc (.cells #[.string ⟨#[]⟩, .int .i64 0] 53)) zmv 39; rwa [World.size_alloc] at this
          have fx0 : w4.frozen? ⟨wz.heap.size, 0, none⟩ = false := by subst hw4; go_simp
          have fx1 : w4.frozen? ⟨wz.heap.size, 1, none⟩ = false := by subst hw4; go_simp
          have fy0 : w4.frozen? ⟨wz.heap.size + 1, 0, none⟩ = false := by subst hw4; go_simp
          have fy1 : w4.frozen? ⟨wz.heap.size + 1, 1, none⟩ = false := by subst hw4; go_simp
          have fy2 : w4.frozen? ⟨wz.heap.size + 1, 2, none⟩ = false := by subst hw4; go_simp
          rw [hw4]
          clear hw4
          have hw5 : Below wr.heap.size wr w4 := HBL.out.trans (hb4.mono HBL.out.size)
          have g0 := (hw5.cell (p := ad.add (i * 2)) (by rw [block_add]; exact hlo)).trans a0
          have g1 := (hw5.cell (p := ⟨(ad.add (i * 2)).block, (ad.add (i * 2)).off + 1, none⟩) (by show (ad.add (i * 2)).block < _; rw [block_add]; exact hlo)).trans a1
          have k1 := (hw5.cell (World.block_lt_of_cell? _ _ c1)).trans c1
          have HX4 := Lib.hid hx4
          have HY4 := Lib.hid hy4
          have HB4 := Lib.hid hb4
          obtain ⟨x0, x1⟩ := hx4
          clear hy4 hb4 hw5
          gi_upto_region 13 with (fail)
          obtain ⟨w5, hw5⟩ : ∃ w5, (w4.setCell ⟨wz.heap.size, 0, none⟩ (.string (pu a i).t)).setCell ⟨wz.heap.size, 1, none⟩ (.int .i64 (pu a i).n) = w5 := ⟨_, rfl⟩
          have HX5 : Hid (Bu w5 wz.heap.size (pu a i)) := Lib.hid (by subst hw5; exact ⟨by go_simp, by go_simp⟩)
          have HY5 : Hid (BV w5 (wz.heap.size + 1) zmv) := Lib.hid (by subst hw5; obtain ⟨y0, y1, y2⟩ := HY4.out; exact ⟨by go_simp, by go_simp, by go_simp⟩)
          have HB5 : Hid (Below wz.heap.size wz w5) := Lib.hid (by subst hw5; exact (HB4.out.setCell (p := ⟨wz.heap.size, 0, none⟩) (Nat.le_refl _) _).setCell (p := ⟨wz.heap.size, 1, none⟩) (Nat.le_refl _) _)
          have gy0 : w5.frozen? ⟨wz.heap.size + 1, 0, none⟩ = false := by subst hw5; simp only [World.frozen?_setCell]; exact fy0
          have gy1 : w5.frozen? ⟨wz.heap.size + 1, 1, none⟩ = false := by subst hw5; simp only [World.frozen?_setCell]; exact fy1
          have gy2 : w5.frozen? ⟨wz.heap.size + 1, 2, none⟩ = false := by subst hw5; simp only [World.frozen?_setCell]; exact fy2
          rw [hw5]
          clear hw5 g0 g1 k1 x0 x1 HX4 HY4 HB4 fx0 fx1 fy0 fy1 fy2
          have hw6 : Below wr.heap.size wr w5 := HBL.out.trans (HB5.out.mono HBL.out.size)
          have g0 := (hw6.cell (p := ad'.add (j * 3)) (by rw [block_add]; exact hlo')).trans b0
          have g1 := (hw6.cell (p := ⟨(ad'.add (j * 3)).block, (ad'.add (j * 3)).off + 1, none⟩) (by show (ad'.add (j * 3)).block < _; rw [block_add]; exact hlo')).trans b1
          have g2 := (hw6.cell (p := ⟨(ad'.add (j * 3)).block, (ad'.add (j * 3)).off + 2, none⟩) (by show (ad'.add (j * 3)).block < _; rw [block_add]; exact hlo')).trans b2
          have k2 := (hw6.cell (World.block_lt_of_cell? _ _ c2)).trans c2
          obtain ⟨y0, y1, y2⟩ := HY5.out
          clear hw6
          gi_upto_region 16 with (fail)
          obtain ⟨w6, hw6⟩ : ∃ w6, (((w5.setCell ⟨wz.heap.size + 1, 0, none⟩ (.string (mv b j).t)).setCell ⟨wz.heap.size + 1, 1, none⟩ (.int .i64 (mv b j).f)).setCell ⟨wz.heap.size + 1, 2, none⟩ (.int .i64 (mv b j).g)) = w6 := ⟨_, rfl⟩
          have HX6 : Hid (Bu w6 wz.heap.size (pu a i)) := Lib.hid (by subst hw6; obtain ⟨x0, x1⟩ := HX5.out; exact ⟨by go_simp, by go_simp⟩)
          have HY6 : Hid (BV w6 (wz.heap.size + 1) (mv b j)) := Lib.hid (by subst hw6; exact ⟨by go_simp, by go_simp, by go_simp⟩)
          have HB6 : Hid (Below wz.heap.size wz w6) := Lib.hid (by subst hw6; exact (((HB5.out.setCell (p := ⟨wz.heap.size + 1, 0, none⟩) (by simp) _).setCell (p := ⟨wz.heap.size + 1, 1, none⟩) (by simp) _).setCell (p := ⟨wz.heap.size + 1, 2, none⟩) (by simp) _))
          rw [hw6]
          clear hw6 k2 g0 g1 g2 y0 y1 y2 gy0 gy1 gy2
          clear HX5 HY5 HB5
          have HBW : Hid (Below wr.heap.size wr w6) := Lib.hid (HBL.out.trans (HB6.out.mono HBL.out.size))
          have HP2 : Hid (zipA Pu.t Mv.t zu zmv a b = (pre ++ [(pu a i, mv b j)]) ++ zipA Pu.t Mv.t zu zmv (a.drop (i + 1)) (b.drop (j + 1))) := Lib.hid (by rw [hp.out, HN.out.2.2]; simp [pu, mv])
          have HI2 : Hid ((i + 1) ≤ a.length ∧ (j + 1) ≤ b.length) := Lib.hid (by omega)
          have HKW : Hid (Kq S bz W w6) := Lib.hid (hk.out.trans (Kq.of HBW.out (by have := hk.out.size; omega)))
          obtain ⟨fn, tmps, assign, body, hy, hR⟩ := HY.out pre (pu a i, mv b j) w6 (HJ.out _ _ _ hJs.out HBW.out) (by rw [HP2.out]; simp)
          dsimp only at hy
          obtain ⟨x0, x1⟩ := HX6.out
          obtain ⟨y0, y1, y2⟩ := HY6.out
          clear HX6 HY6 HB6 HBW hp hJs hk HN
          gi_wp2
          refine ⟨fun e => (by cases e), hR.mono ?_⟩
          rintro e W3 (⟨rfl, hJ3, hk3⟩ | ⟨rfl, hJx3⟩)
          · have HJ3 := Lib.hid hJ3
            have HK3 := Lib.hid (HKW.out.trans hk3)
            clear hJ3 hk3 hR hy
            gi_wp2
            go_roundw
            case rel => exact ⟨(i + 1), (j + 1), _, by go_num, by go_num, HI2.out.1, HI2.out.2, HP2, HJ3, HK3⟩
            case measure => simp [intOf]; have := HI2.out; omega
          · have HJ3 := Lib.hid hJx3
            clear hJx3 hR hy
            gi_wp2
            refine bodyPost_ret (results_none rfl _ _ _) rfl ?_
            exact ⟨⟨_, rfl⟩, .inr ⟨_, ⟨_, HP2.out.symm⟩, HJ3.out⟩⟩
        · gi_upto_region 10 with (fail)
          obtain ⟨w4, hw4⟩ : ∃ w4, ((wz.alloc (.cells #[.string ⟨#[]⟩, .int .i64 0] 53)).alloc (.cells #[.string ⟨#[]⟩, .int .i64 0, .int .i64 0] 39)) = w4 := ⟨_, rfl⟩
          have hb4 : Below wz.heap.size wz w4 := by rw [← hw4]; exact ((Below.refl _ _).alloc (Nat.le_refl _) _).alloc (by simp) _
          have hx4 : Bu w4 wz.heap.size zu := by rw [← hw4]; exact (Bu.new wz zu _).alloc _
          have hy4 : BV w4 (wz.heap.size + 1) zmv := by rw [← hw4]; have := BV.new (wz.alloc (.cells #[.string ⟨#[]⟩, .int .i64 0] 53)) zmv 39; rwa [World.size_alloc] at this
          have fx0 : w4.frozen? ⟨wz.heap.size, 0, none⟩ = false := by subst hw4; go_simp
          have fx1 : w4.frozen? ⟨wz.heap.size, 1, none⟩ = false := by subst hw4; go_simp
          have fy0 : w4.frozen? ⟨wz.heap.size + 1, 0, none⟩ = false := by subst hw4; go_simp
          have fy1 : w4.frozen? ⟨wz.heap.size + 1, 1, none⟩ = false := by subst hw4; go_simp
          have fy2 : w4.frozen? ⟨wz.heap.size + 1, 2, none⟩ = false := by subst hw4; go_simp
          rw [hw4]
          clear hw4
          have hw5 : Below wr.heap.size wr w4 := HBL.out.trans (hb4.mono HBL.out.size)
          have HX4 := Lib.hid hx4
          have HY4 := Lib.hid hy4
          have HB4 := Lib.hid hb4
          obtain ⟨x0, x1⟩ := hx4
          clear hy4 hb4 hw5
          gi_upto_region 13 with (fail)
          have HX5 := HX4
          have HY5 := HY4
          have HB5 := HB4
          have gy0 := fy0
          have gy1 := fy1
          have gy2 := fy2
          clear x0 x1 HX4 HY4 HB4 fx0 fx1 fy0 fy1 fy2
          have hw6 : Below wr.heap.size wr w4 := HBL.out.trans (HB5.out.mono HBL.out.size)
          have g0 := (hw6.cell (p := ad'.add (j * 3)) (by rw [block_add]; exact hlo')).trans b0
          have g1 := (hw6.cell (p := ⟨(ad'.add (j * 3)).block, (ad'.add (j * 3)).off + 1, none⟩) (by show (ad'.add (j * 3)).block < _; rw [block_add]; exact hlo')).trans b1
          have g2 := (hw6.cell (p := ⟨(ad'.add (j * 3)).block, (ad'.add (j * 3)).off + 2, none⟩) (by show (ad'.add (j * 3)).block < _; rw [block_add]; exact hlo')).trans b2
          have k2 := (hw6.cell (World.block_lt_of_cell? _ _ c2)).trans c2
          obtain ⟨y0, y1, y2⟩ := HY5.out
          clear hw6
          gi_upto_region 16 with (fail)
          obtain ⟨w6, hw6⟩ : ∃ w6, (((w4.setCell ⟨wz.heap.size + 1, 0, none⟩ (.string (mv b j).t)).setCell ⟨wz.heap.size + 1, 1, none⟩ (.int .i64 (mv b j).f)).setCell ⟨wz.heap.size + 1, 2, none⟩ (.int .i64 (mv b j).g)) = w6 := ⟨_, rfl⟩
          have HX6 : Hid (Bu w6 wz.heap.size (zu)) := Lib.hid (by subst hw6; obtain ⟨x0, x1⟩ := HX5.out; exact ⟨by go_simp, by go_simp⟩)
          have HY6 : Hid (BV w6 (wz.heap.size + 1) (mv b j)) := Lib.hid (by subst hw6; exact ⟨by go_simp, by go_simp, by go_simp⟩)
          have HB6 : Hid (Below wz.heap.size wz w6) := Lib.hid (by subst hw6; exact (((HB5.out.setCell (p := ⟨wz.heap.size + 1, 0, none⟩) (by simp) _).setCell (p := ⟨wz.heap.size + 1, 1, none⟩) (by simp) _).setCell (p := ⟨wz.heap.size + 1, 2, none⟩) (by simp) _))
          rw [hw6]
          clear hw6 k2 g0 g1 g2 y0 y1 y2 gy0 gy1 gy2
          clear HX5 HY5 HB5
          have HBW : Hid (Below wr.heap.size wr w6) := Lib.hid (HBL.out.trans (HB6.out.mono HBL.out.size))
          have HP2 : Hid (zipA Pu.t Mv.t zu zmv a b = (pre ++ [(zu, mv b j)]) ++ zipA Pu.t Mv.t zu zmv (a.drop i) (b.drop (j + 1))) := Lib.hid (by rw [hp.out, HN.out.2.2]; simp [mv])
          have HI2 : Hid (i ≤ a.length ∧ (j + 1) ≤ b.length) := Lib.hid (by omega)
          have HKW : Hid (Kq S bz W w6) := Lib.hid (hk.out.trans (Kq.of HBW.out (by have := hk.out.size; omega)))
          obtain ⟨fn, tmps, assign, body, hy, hR⟩ := HY.out pre (zu, mv b j) w6 (HJ.out _ _ _ hJs.out HBW.out) (by rw [HP2.out]; simp)
          dsimp only at hy
          obtain ⟨x0, x1⟩ := HX6.out
          obtain ⟨y0, y1, y2⟩ := HY6.out
          clear HX6 HY6 HB6 HBW hp hJs hk HN
          gi_wp2
          refine ⟨fun e => (by cases e), hR.mono ?_⟩
          rintro e W3 (⟨rfl, hJ3, hk3⟩ | ⟨rfl, hJx3⟩)
          · have HJ3 := Lib.hid hJ3
            have HK3 := Lib.hid (HKW.out.trans hk3)
            clear hJ3 hk3 hR hy
            gi_wp2
            go_roundw
            case rel => exact ⟨i, (j + 1), _, by go_num, by go_num, HI2.out.1, HI2.out.2, HP2, HJ3, HK3⟩
            case measure => simp [intOf]; have := HI2.out; omega
          · have HJ3 := Lib.hid hJx3
            clear hJx3 hR hy
            gi_wp2
            refine bodyPost_ret (results_none rfl _ _ _) rfl ?_
            exact ⟨⟨_, rfl⟩, .inr ⟨_, ⟨_, HP2.out.symm⟩, HJ3.out⟩⟩
      · have hje : j = b.length := by omega
        obtain ⟨ad, rfl, hlo, h1⟩ := (HAA.out wr hk.out) i hil
        have HN := Lib.hid (zipA_at (kx := Pu.t) (ky := Mv.t) (za := zu) (zb := zmv) a b zu zmv i j hi hj (Or.inl hil) (-1) (whoZ_left a b i j hil hje))
        have e1 : decide ((i : Int) < (a.length : Int)) = true := by simp; omega
        have e2 : ((i : Int) == (a.length : Int)) = false := by simp; omega
        have e3 : ((j : Int) == (b.length : Int)) = true := by simp; omega
        have i0 : (0 : Int) ≤ (i : Int) := by omega
        have i1 : (i : Int) < (a.length : Int) := by omega
        obtain ⟨a0, a1⟩ := h1.flat
        have HBL := Lib.hid (Below.refl wr.heap.size wr)
        clear hje h1 c3
        gi_upto_region 10 with (fail)
        obtain ⟨w4, hw4⟩ : ∃ w4, ((wr.alloc (.cells #[.string ⟨#[]⟩, .int .i64 0] 53)).alloc (.cells #[.string ⟨#[]⟩, .int .i64 0, .int .i64 0] 39)) = w4 := ⟨_, rfl⟩
        have hb4 : Below wr.heap.size wr w4 := by rw [← hw4]; exact ((Below.refl _ _).alloc (Nat.le_refl _) _).alloc (by simp) _
        have hx4 : Bu w4 wr.heap.size zu := by rw [← hw4]; exact (Bu.new wr zu _).alloc _
        have hy4 : BV w4 (wr.heap.size + 1) zmv := by rw [← hw4]; have := BV.new (wr.alloc (.cells #[.string ⟨#[]⟩, .int .i64 0] 53)) zmv 39; rwa [World.size_alloc] at this
        have fx0 : w4.frozen? ⟨wr.heap.size, 0, none⟩ = false := by subst hw4; go_simp
        have fx1 : w4.frozen? ⟨wr.heap.size, 1, none⟩ = false := by subst hw4; go_simp
        have fy0 : w4.frozen? ⟨wr.heap.size + 1, 0, none⟩ = false := by subst hw4; go_simp
        have fy1 : w4.frozen? ⟨wr.heap.size + 1, 1, none⟩ = false := by subst hw4; go_simp
        have fy2 : w4.frozen? ⟨wr.heap.size + 1, 2, none⟩ = false := by subst hw4; go_simp
        rw [hw4]
        clear hw4
        have hw5 : Below wr.heap.size wr w4 := HBL.out.trans (hb4.mono HBL.out.size)
        have g0 := (hw5.cell (p := ad.add (i * 2)) (by rw [block_add]; exact hlo)).trans a0
        have g1 := (hw5.cell (p := ⟨(ad.add (i * 2)).block, (ad.add (i * 2)).off + 1, none⟩) (by show (ad.add (i * 2)).block < _; rw [block_add]; exact hlo)).trans a1
        have k1 := (hw5.cell (World.block_lt_of_cell? _ _ c1)).trans c1
        have HX4 := Lib.hid hx4
        have HY4 := Lib.hid hy4
        have HB4 := Lib.hid hb4
        obtain ⟨x0, x1⟩ := hx4
        clear hy4 hb4 hw5
        gi_upto_region 13 with (fail)
        obtain ⟨w5, hw5⟩ : ∃ w5, (w4.setCell ⟨wr.heap.size, 0, none⟩ (.string (pu a i).t)).setCell ⟨wr.heap.size, 1, none⟩ (.int .i64 (pu a i).n) = w5 := ⟨_, rfl⟩
        have HX5 : Hid (Bu w5 wr.heap.size (pu a i)) := Lib.hid (by subst hw5; exact ⟨by go_simp, by go_simp⟩)
        have HY5 : Hid (BV w5 (wr.heap.size + 1) zmv) := Lib.hid (by subst hw5; obtain ⟨y0, y1, y2⟩ := HY4.out; exact ⟨by go_simp, by go_simp, by go_simp⟩)
        have HB5 : Hid (Below wr.heap.size wr w5) := Lib.hid (by subst hw5; exact (HB4.out.setCell (p := ⟨wr.heap.size, 0, none⟩) (Nat.le_refl _) _).setCell (p := ⟨wr.heap.size, 1, none⟩) (Nat.le_refl _) _)
        have gy0 : w5.frozen? ⟨wr.heap.size + 1, 0, none⟩ = false := by subst hw5; simp only [World.frozen?_setCell]; exact fy0
        have gy1 : w5.frozen? ⟨wr.heap.size + 1, 1, none⟩ = false := by subst hw5; simp only [World.frozen?_setCell]; exact fy1
        have gy2 : w5.frozen? ⟨wr.heap.size + 1, 2, none⟩ = false := by subst hw5; simp only [World.frozen?_setCell]; exact fy2
        rw [hw5]
        clear hw5 g0 g1 k1 x0 x1 HX4 HY4 HB4 fx0 fx1 fy0 fy1 fy2
        have hw6 : Below wr.heap.size wr w5 := HBL.out.trans (HB5.out.mono HBL.out.size)
        obtain ⟨y0, y1, y2⟩ := HY5.out
        clear hw6
        gi_upto_region 16 with (fail)
        have HX6 := HX5
        have HY6 := HY5
        have HB6 := HB5
        clear y0 y1 y2 gy0 gy1 gy2
        clear HX5 HY5 HB5
        have HBW : Hid (Below wr.heap.size wr w5) := Lib.hid (HBL.out.trans (HB6.out.mono HBL.out.size))
        have HP2 : Hid (zipA Pu.t Mv.t zu zmv a b = (pre ++ [(pu a i, zmv)]) ++ zipA Pu.t Mv.t zu zmv (a.drop (i + 1)) (b.drop j)) := Lib.hid (by rw [hp.out, HN.out.2.2]; simp [pu])
        have HI2 : Hid ((i + 1) ≤ a.length ∧ j ≤ b.length) := Lib.hid (by omega)
        have HKW : Hid (Kq S bz W w5) := Lib.hid (hk.out.trans (Kq.of HBW.out (by have := hk.out.size; omega)))
        obtain ⟨fn, tmps, assign, body, hy, hR⟩ := HY.out pre (pu a i, zmv) w5 (HJ.out _ _ _ hJs.out HBW.out) (by rw [HP2.out]; simp)
        dsimp only at hy
        obtain ⟨x0, x1⟩ := HX6.out
        obtain ⟨y0, y1, y2⟩ := HY6.out
        clear HX6 HY6 HB6 HBW hp hJs hk HN
        gi_wp2
        refine ⟨fun e => (by cases e), hR.mono ?_⟩
        rintro e W3 (⟨rfl, hJ3, hk3⟩ | ⟨rfl, hJx3⟩)
        · have HJ3 := Lib.hid hJ3
          have HK3 := Lib.hid (HKW.out.trans hk3)
          clear hJ3 hk3 hR hy
          gi_wp2
          go_roundw
          case rel => exact ⟨(i + 1), j, _, by go_num, by go_num, HI2.out.1, HI2.out.2, HP2, HJ3, HK3⟩
          case measure => simp [intOf]; have := HI2.out; omega
        · have HJ3 := Lib.hid hJx3
          clear hJx3 hR hy
          gi_wp2
          refine bodyPost_ret (results_none rfl _ _ _) rfl ?_
          exact ⟨⟨_, rfl⟩, .inr ⟨_, ⟨_, HP2.out.symm⟩, HJ3.out⟩⟩
    · by_cases hjl : j < b.length
      · have hie : i = a.length := by omega
        obtain ⟨ad', rfl, hlo', h2⟩ := (HBB.out wr hk.out) j hjl
        have HN := Lib.hid (zipA_at (kx := Pu.t) (ky := Mv.t) (za := zu) (zb := zmv) a b zu zmv i j hi hj (Or.inr hjl) 1 (whoZ_right a b i j hie))
        have e1 : decide ((i : Int) < (a.length : Int)) = false := by simp; omega
        have e0 : decide ((j : Int) < (b.length : Int)) = true := by simp; omega
        have e2 : ((i : Int) == (a.length : Int)) = true := by simp; omega
        have j0 : (0 : Int) ≤ (j : Int) := by omega
        have j1 : (j : Int) < (b.length : Int) := by omega
        obtain ⟨b0, b1, b2⟩ := h2.flat
        have HBL := Lib.hid (Below.refl wr.heap.size wr)
        clear hie h2 c3
        gi_upto_region 10 with (fail)
        obtain ⟨w4, hw4⟩ : ∃ w4, ((wr.alloc (.cells #[.string ⟨#[]⟩, .int .i64 0] 53)).alloc (.cells #[.string ⟨#[]⟩, .int .i64 0, .int .i64 0] 39)) = w4 := ⟨_, rfl⟩
        have hb4 : Below wr.heap.size wr w4 := by rw [← hw4]; exact ((Below.refl _ _).alloc (Nat.le_refl _) _).alloc (by simp) _
        have hx4 : Bu w4 wr.heap.size zu := by rw [← hw4]; exact (Bu.new wr zu _).alloc _
        have hy4 : BV w4 (wr.heap.size + 1) zmv := by rw [← hw4]; have := BV.new (wr.alloc (.cells #[.string ⟨#[]⟩, .int .i64 0] 53)) zmv 39; rwa [World.size_alloc] at this
        have fx0 : w4.frozen? ⟨wr.heap.size, 0, none⟩ = false := by subst hw4; go_simp
        have fx1 : w4.frozen? ⟨wr.heap.size, 1, none⟩ = false := by subst hw4; go_simp
        have fy0 : w4.frozen? ⟨wr.heap.size + 1, 0, none⟩ = false := by subst hw4; go_simp
        have fy1 : w4.frozen? ⟨wr.heap.size + 1, 1, none⟩ = false := by subst hw4; go_simp
        have fy2 : w4.frozen? ⟨wr.heap.size + 1, 2, none⟩ = false := by subst hw4; go_simp
        rw [hw4]
        clear hw4
        have hw5 : Below wr.heap.size wr w4 := HBL.out.trans (hb4.mono HBL.out.size)
        have HX4 := Lib.hid hx4
        have HY4 := Lib.hid hy4
        have HB4 := Lib.hid hb4
        obtain ⟨x0, x1⟩ := hx4
        clear hy4 hb4 hw5
        gi_upto_region 13 with (fail)
        have HX5 := HX4
        have HY5 := HY4
        have HB5 := HB4
        have gy0 := fy0
        have gy1 := fy1
        have gy2 := fy2
        clear x0 x1 HX4 HY4 HB4 fx0 fx1 fy0 fy1 fy2
        have hw6 : Below wr.heap.size wr w4 := HBL.out.trans (HB5.out.mono HBL.out.size)
        have g0 := (hw6.cell (p := ad'.add (j * 3)) (by rw [block_add]; exact hlo')).trans b0
        have g1 := (hw6.cell (p := ⟨(ad'.add (j * 3)).block, (ad'.add (j * 3)).off + 1, none⟩) (by show (ad'.add (j * 3)).block < _; rw [block_add]; exact hlo')).trans b1
        have g2 := (hw6.cell (p := ⟨(ad'.add (j * 3)).block, (ad'.add (j * 3)).off + 2, none⟩) (by show (ad'.add (j * 3)).block < _; rw [block_add]; exact hlo')).trans b2
        have k2 := (hw6.cell (World.block_lt_of_cell? _ _ c2)).trans c2
        obtain ⟨y0, y1, y2⟩ := HY5.out
        clear hw6
        gi_upto_region 16 with (fail)
        obtain ⟨w6, hw6⟩ : ∃ w6, (((w4.setCell ⟨wr.heap.size + 1, 0, none⟩ (.string (mv b j).t)).setCell ⟨wr.heap.size + 1, 1, none⟩ (.int .i64 (mv b j).f)).setCell ⟨wr.heap.size + 1, 2, none⟩ (.int .i64 (mv b j).g)) = w6 := ⟨_, rfl⟩
        have HX6 : Hid (Bu w6 wr.heap.size (zu)) := Lib.hid (by subst hw6; obtain ⟨x0, x1⟩ := HX5.out; exact ⟨by go_simp, by go_simp⟩)
        have HY6 : Hid (BV w6 (wr.heap.size + 1) (mv b j)) := Lib.hid (by subst hw6; exact ⟨by go_simp, by go_simp, by go_simp⟩)
        have HB6 : Hid (Below wr.heap.size wr w6) := Lib.hid (by subst hw6; exact (((HB5.out.setCell (p := ⟨wr.heap.size + 1, 0, none⟩) (by simp) _).setCell (p := ⟨wr.heap.size + 1, 1, none⟩) (by simp) _).setCell (p := ⟨wr.heap.size + 1, 2, none⟩) (by simp) _))
        rw [hw6]
        clear hw6 k2 g0 g1 g2 y0 y1 y2 gy0 gy1 gy2
        clear HX5 HY5 HB5
        have HBW : Hid (Below wr.heap.size wr w6) := Lib.hid (HBL.out.trans (HB6.out.mono HBL.out.size))
        have HP2 : Hid (zipA Pu.t Mv.t zu zmv a b = (pre ++ [(zu, mv b j)]) ++ zipA Pu.t Mv.t zu zmv (a.drop i) (b.drop (j + 1))) := Lib.hid (by rw [hp.out, HN.out.2.2]; simp [mv])
        have HI2 : Hid (i ≤ a.length ∧ (j + 1) ≤ b.length) := Lib.hid (by omega)
        have HKW : Hid (Kq S bz W w6) := Lib.hid (hk.out.trans (Kq.of HBW.out (by have := hk.out.size; omega)))
        obtain ⟨fn, tmps, assign, body, hy, hR⟩ := HY.out pre (zu, mv b j) w6 (HJ.out _ _ _ hJs.out HBW.out) (by rw [HP2.out]; simp)
        dsimp only at hy
        obtain ⟨x0, x1⟩ := HX6.out
        obtain ⟨y0, y1, y2⟩ := HY6.out
        clear HX6 HY6 HB6 HBW hp hJs hk HN
        gi_wp2
        refine ⟨fun e => (by cases e), hR.mono ?_⟩
        rintro e W3 (⟨rfl, hJ3, hk3⟩ | ⟨rfl, hJx3⟩)
        · have HJ3 := Lib.hid hJ3
          have HK3 := Lib.hid (HKW.out.trans hk3)
          clear hJ3 hk3 hR hy
          gi_wp2
          go_roundw
          case rel => exact ⟨i, (j + 1), _, by go_num, by go_num, HI2.out.1, HI2.out.2, HP2, HJ3, HK3⟩
          case measure => simp [intOf]; have := HI2.out; omega
        · have HJ3 := Lib.hid hJx3
          clear hJx3 hR hy
          gi_wp2
          refine bodyPost_ret (results_none rfl _ _ _) rfl ?_
          exact ⟨⟨_, rfl⟩, .inr ⟨_, ⟨_, HP2.out.symm⟩, HJ3.out⟩⟩
      · have hie : i = a.length := by omega
        have hje : j = b.length := by omega
        have HP : Hid (pre = zipA Pu.t Mv.t zu zmv a b) := Lib.hid (by have := hp.out; rw [zipA_end a b i j hie hje, List.append_nil] at this; exact this.symm)
        have e1 : decide ((i : Int) < (a.length : Int)) = false := by simp; omega
        have e2 : decide ((j : Int) < (b.length : Int)) = false := by simp; omega
        clear hp hie hje
        gi_wp2
        go_end0
        exact ⟨⟨_, rfl⟩, .inl ⟨pre, HP.out, hJs.out⟩⟩
end Go.Proofs.Ytdbndkccgpmkbaa
