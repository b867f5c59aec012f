/-
  Whole contracts: all four.
-/
import Derived.Test.YtlefnohcfnlejaaVr
namespace Go.Proofs.Ytlefnohcfnlejaa
open Go.Sort Go.RowKit Go.Proofs.Ytlefnohcfnlejaa.Pure

theorem VtW.set012 {w : World} {g : Nat} {v : Vt} (h : VtW w g v) (a b c : Int) : VtW (((w.setCell ⟨g, 0, none⟩ (.int .u64 a)).setCell ⟨g, 1, none⟩ (.int .i64 b)).setCell ⟨g, 2, none⟩ (.int .i64 c)) g ⟨a, b, c, v.w⟩ := by
  obtain ⟨⟨h0, h1, h2, h3⟩, hf⟩ := h
  exact ⟨⟨by go_simp, by go_simp, by go_simp, by go_simp⟩, fun k => by go_simp⟩
theorem VtW.off {w : World} {g h k : Nat} {v : Vt} (hv : VtW w g v) (hn : ¬ h = g) (x : Value) : VtW (w.setCell ⟨h, k, none⟩ x) g v := by
  obtain ⟨⟨h0, h1, h2, h3⟩, hf⟩ := hv
  have hn2 : ¬ g = h := fun h => hn h.symm
  exact ⟨⟨by go_simp, by go_simp, by go_simp, by go_simp⟩, fun k => by go_simp⟩
set_option maxRecDepth 100000 in
set_option maxHeartbeats 2000000 in
theorem ask_any (x : Tm) (v : Vt) (f e n : Int) (w : World) : Calls Try.prog 12 #[.agg #[.int .i64 x.t, .int .i64 x.d, .int .i64 x.r], .agg #[.int .u64 v.e, .int .i64 v.t, .int .i64 v.u, .int .i64 v.w], .int .i64 f, .int .u64 e, .int .i64 n] w fun r w' => r = .returned (.tuple #[.agg #[.int .u64 (akR x v f e n).e, .int .i64 (akR x v f e n).t, .int .i64 (akR x v f e n).u, .int .i64 (akR x v f e n).w], .bool (akB x v f e n), .int .i64 (akE x v f n)]) ∧ Below w.heap.size w w' := by
  have HE := Lib.hid (akE_parts x v f n)
  have HR : Hid (akR x v f e n = if akE x v f n = 0 then askV x.t v f e n else v) := Lib.hid rfl
  have HA : Hid (akB x v f e n = ((akE x v f n == 0) && !hinB v f e n)) := Lib.hid (by unfold akB; rw [hin_gr])
  have HY := Lib.hid (fun h => askV_yes (T := x.t) (v := v) (x := f) (e := e) (n := n) h)
  have HNo := Lib.hid (fun h => askV_no (T := x.t) (v := v) (x := f) (e := e) (n := n) h)
  have HGR := Lib.hid (hin_gr v f e n)
  have C0 := Lib.hid (fun W => may_any x W)
  have C1 := Lib.hid (fun W => check_any v W)
  have C2 := Lib.hid (fun W => isNode_any f W)
  have C3 := Lib.hid (fun W => isTick_any n W)
  have C4 := Lib.hid (fun W => hindered_any v f e n W)
  have HX := Lib.hid (holdE_nil (x := x))
  have HN := Lib.hid (show momB n = true ↔ 0 ≤ n ∧ n ≤ 1099511627776 from by unfold momB; simp)
  have hEc := holdE_cases x
  have hCc := ckE_cases v
  generalize akR x v f e n = R at *
  generalize akB x v f e n = B at *
  generalize akE x v f n = E at *
  generalize askV x.t v f e n = S at *
  generalize grB v f e n = G at *
  generalize hinB v f e n = q4 at *
  generalize holdE x = q at *
  generalize holdF x = qf at *
  generalize ckE v = q1 at *
  generalize nodeV f = q2 at *
  generalize momB n = q3 at *
  obtain ⟨t, d, r⟩ := x
  obtain ⟨ve, vt, vu, vw⟩ := v
  simp only at HR C0 C1 C4 HX HY HNo ⊢
  have HB0 := Lib.hid (show Below w.heap.size w (((w.alloc (.cells #[.int .i64 t, .int .i64 d, .int .i64 r] 23)).alloc (.cells #[.int .u64 ve, .int .i64 vt, .int .i64 vu, .int .i64 vw] 38)).alloc (.cells #[.int .u64 0, .int .i64 0, .int .i64 0, .int .i64 0] 38)) from (((Below.refl _ _).alloc (Nat.le_refl _) _).alloc (by simp) _).alloc (by simp; omega) _)
  have HT0 : Hid (TmA (((w.alloc (.cells #[.int .i64 t, .int .i64 d, .int .i64 r] 23)).alloc (.cells #[.int .u64 ve, .int .i64 vt, .int .i64 vu, .int .i64 vw] 38)).alloc (.cells #[.int .u64 0, .int .i64 0, .int .i64 0, .int .i64 0] 38)) w.heap.size ⟨t, d, r⟩) := Lib.hid (((TmA.new w ⟨t, d, r⟩ _).on ((Below.refl _ _).alloc (Nat.le_refl _) _)).on ((Below.refl _ _).alloc (Nat.le_refl _) _))
  have HV0 : Hid (VtW (((w.alloc (.cells #[.int .i64 t, .int .i64 d, .int .i64 r] 23)).alloc (.cells #[.int .u64 ve, .int .i64 vt, .int .i64 vu, .int .i64 vw] 38)).alloc (.cells #[.int .u64 0, .int .i64 0, .int .i64 0, .int .i64 0] 38)) (w.alloc (.cells #[.int .i64 t, .int .i64 d, .int .i64 r] 23)).heap.size ⟨ve, vt, vu, vw⟩) := Lib.hid ((VtW.new (w.alloc (.cells #[.int .i64 t, .int .i64 d, .int .i64 r] 23)) ⟨ve, vt, vu, vw⟩ _).on ((Below.refl _ _).alloc (Nat.le_refl _) _))
  have HZ0 : Hid (VtW (((w.alloc (.cells #[.int .i64 t, .int .i64 d, .int .i64 r] 23)).alloc (.cells #[.int .u64 ve, .int .i64 vt, .int .i64 vu, .int .i64 vw] 38)).alloc (.cells #[.int .u64 0, .int .i64 0, .int .i64 0, .int .i64 0] 38)) ((w.alloc (.cells #[.int .i64 t, .int .i64 d, .int .i64 r] 23)).alloc (.cells #[.int .u64 ve, .int .i64 vt, .int .i64 vu, .int .i64 vw] 38)).heap.size ⟨0, 0, 0, 0⟩) := Lib.hid (VtW.new ((w.alloc (.cells #[.int .i64 t, .int .i64 d, .int .i64 r] 23)).alloc (.cells #[.int .u64 ve, .int .i64 vt, .int .i64 vu, .int .i64 vw] 38)) ⟨0, 0, 0, 0⟩ _)
  have hs1 : (w.alloc (.cells #[.int .i64 t, .int .i64 d, .int .i64 r] 23)).heap.size = w.heap.size + 1 := by simp
  have hs2 : ((w.alloc (.cells #[.int .i64 t, .int .i64 d, .int .i64 r] 23)).alloc (.cells #[.int .u64 ve, .int .i64 vt, .int .i64 vu, .int .i64 vw] 38)).heap.size = w.heap.size + 1 + 1 := by simp
  rw [hs1] at HV0
  rw [hs2] at HZ0
  clear hs1 hs2
  rcases hEc with rfl | rfl
  · rcases hCc with rfl | rfl
    · cases q2 with
      | false =>
        have HEV : Hid (E = 1) := Lib.hid (HE.out.trans (by simp))
        have HBV : Hid (B = false) := Lib.hid (HA.out.trans (by rw [HEV.out]; rfl))
        have HRV : Hid (R = ⟨ve, vt, vu, vw⟩) := Lib.hid (HR.out.trans (by rw [HEV.out]; rfl))
        clear HE HR HA HY HNo HGR
        clear HX HN
        go_enter Try.func12, Try.ntmps12
        go_upto_region 1 with (fail)
        generalize (((w.alloc (.cells #[.int .i64 t, .int .i64 d, .int .i64 r] 23)).alloc (.cells #[.int .u64 ve, .int .i64 vt, .int .i64 vu, .int .i64 vw] 38)).alloc (.cells #[.int .u64 0, .int .i64 0, .int .i64 0, .int .i64 0] 38)) = w1 at *
        generalize hg1 : w.heap.size + 1 = g1 at *
        generalize hg2 : g1 + 1 = g2 at *
        have HG : Hid (w.heap.size ≤ g1 ∧ w.heap.size ≤ g2) := Lib.hid (by omega)
        have n01 : ¬ w.heap.size = g1 := by omega
        have n02 : ¬ w.heap.size = g2 := by omega
        have n12 : ¬ g1 = g2 := by omega
        have n10 : ¬ g1 = w.heap.size := by omega
        have n20 : ¬ g2 = w.heap.size := by omega
        have n21 : ¬ g2 = g1 := by omega
        clear hg1 hg2
        obtain ⟨a0, a1, a2⟩ := HT0.out
        obtain ⟨⟨b0, b1, b2, b3⟩, bf⟩ := HV0.out
        obtain ⟨⟨z0, z1, z2, z3⟩, zf⟩ := HZ0.out
        simp only at a0 a1 a2 b0 b1 b2 b3 z0 z1 z2 z3
        go_wp2_with fail
        refine (C0.out _).mono ?_
        rintro r2 w2 ⟨rfl, hb⟩
        have HB1 := Lib.hid (HB0.out.trans (hb.mono HB0.out.size))
        have HV1 := Lib.hid (HV0.out.on hb)
        have HT1 := Lib.hid (HT0.out.on hb)
        have HZ1 := Lib.hid (HZ0.out.on hb)
        clear hb HB0 HV0 HT0 HZ0
        clear a0 a1 a2 b0 b1 b2 b3 bf z0 z1 z2 z3 zf
        obtain ⟨a0, a1, a2⟩ := HT1.out
        obtain ⟨⟨b0, b1, b2, b3⟩, bf⟩ := HV1.out
        obtain ⟨⟨z0, z1, z2, z3⟩, zf⟩ := HZ1.out
        simp only at a0 a1 a2 b0 b1 b2 b3 z0 z1 z2 z3
        go_wp2_with fail
        refine (C1.out _).mono ?_
        rintro r2 w3 ⟨rfl, hb⟩
        have HB2 := Lib.hid (HB1.out.trans (hb.mono HB1.out.size))
        have HV2 := Lib.hid (HV1.out.on hb)
        have HT2 := Lib.hid (HT1.out.on hb)
        have HZ2 := Lib.hid (HZ1.out.on hb)
        clear hb HB1 HV1 HT1 HZ1
        clear a0 a1 a2 b0 b1 b2 b3 bf z0 z1 z2 z3 zf
        obtain ⟨a0, a1, a2⟩ := HT2.out
        obtain ⟨⟨b0, b1, b2, b3⟩, bf⟩ := HV2.out
        obtain ⟨⟨z0, z1, z2, z3⟩, zf⟩ := HZ2.out
        simp only at a0 a1 a2 b0 b1 b2 b3 z0 z1 z2 z3
        go_wp2_with fail
        refine (C2.out _).mono ?_
        rintro r2 wx ⟨rfl, rfl⟩
        go_upto_region 2 with (fail)
        have HB9 := Lib.hid (below_set4 HB2.out HG.out.2 (.int .u64 ve) (.int .i64 vt) (.int .i64 vu) (.int .i64 vw))
        have HZ9 := Lib.hid (HZ2.out.set ⟨ve, vt, vu, vw⟩)
        simp only at HZ9
        go_wp2_with fail
        clear a0 a1 a2 b0 b1 b2 b3 bf z0 z1 z2 z3 zf
        obtain ⟨⟨r0, r1, r2, r3⟩, _⟩ := HZ9.out
        simp only at r0 r1 r2 r3
        exact bodyPost_ret (v := .tuple #[.agg #[.int .u64 ve, .int .i64 vt, .int .i64 vu, .int .i64 vw], .bool false, .int .i64 1]) (by simp [results, Try.results12, go_sem, r0, r1, r2, r3]) rfl ⟨by rw [HRV.out, HEV.out, HBV.out], HB9.out⟩
      | true =>
        cases q3 with
        | false =>
          have HEV : Hid (E = 1) := Lib.hid (HE.out.trans (by simp))
          have HBV : Hid (B = false) := Lib.hid (HA.out.trans (by rw [HEV.out]; rfl))
          have HRV : Hid (R = ⟨ve, vt, vu, vw⟩) := Lib.hid (HR.out.trans (by rw [HEV.out]; rfl))
          clear HE HR HA HY HNo HGR
          clear HX HN
          go_enter Try.func12, Try.ntmps12
          go_upto_region 1 with (fail)
          generalize (((w.alloc (.cells #[.int .i64 t, .int .i64 d, .int .i64 r] 23)).alloc (.cells #[.int .u64 ve, .int .i64 vt, .int .i64 vu, .int .i64 vw] 38)).alloc (.cells #[.int .u64 0, .int .i64 0, .int .i64 0, .int .i64 0] 38)) = w1 at *
          generalize hg1 : w.heap.size + 1 = g1 at *
          generalize hg2 : g1 + 1 = g2 at *
          have HG : Hid (w.heap.size ≤ g1 ∧ w.heap.size ≤ g2) := Lib.hid (by omega)
          have n01 : ¬ w.heap.size = g1 := by omega
          have n02 : ¬ w.heap.size = g2 := by omega
          have n12 : ¬ g1 = g2 := by omega
          have n10 : ¬ g1 = w.heap.size := by omega
          have n20 : ¬ g2 = w.heap.size := by omega
          have n21 : ¬ g2 = g1 := by omega
          clear hg1 hg2
          obtain ⟨a0, a1, a2⟩ := HT0.out
          obtain ⟨⟨b0, b1, b2, b3⟩, bf⟩ := HV0.out
          obtain ⟨⟨z0, z1, z2, z3⟩, zf⟩ := HZ0.out
          simp only at a0 a1 a2 b0 b1 b2 b3 z0 z1 z2 z3
          go_wp2_with fail
          refine (C0.out _).mono ?_
          rintro r2 w2 ⟨rfl, hb⟩
          have HB1 := Lib.hid (HB0.out.trans (hb.mono HB0.out.size))
          have HV1 := Lib.hid (HV0.out.on hb)
          have HT1 := Lib.hid (HT0.out.on hb)
          have HZ1 := Lib.hid (HZ0.out.on hb)
          clear hb HB0 HV0 HT0 HZ0
          clear a0 a1 a2 b0 b1 b2 b3 bf z0 z1 z2 z3 zf
          obtain ⟨a0, a1, a2⟩ := HT1.out
          obtain ⟨⟨b0, b1, b2, b3⟩, bf⟩ := HV1.out
          obtain ⟨⟨z0, z1, z2, z3⟩, zf⟩ := HZ1.out
          simp only at a0 a1 a2 b0 b1 b2 b3 z0 z1 z2 z3
          go_wp2_with fail
          refine (C1.out _).mono ?_
          rintro r2 w3 ⟨rfl, hb⟩
          have HB2 := Lib.hid (HB1.out.trans (hb.mono HB1.out.size))
          have HV2 := Lib.hid (HV1.out.on hb)
          have HT2 := Lib.hid (HT1.out.on hb)
          have HZ2 := Lib.hid (HZ1.out.on hb)
          clear hb HB1 HV1 HT1 HZ1
          clear a0 a1 a2 b0 b1 b2 b3 bf z0 z1 z2 z3 zf
          obtain ⟨a0, a1, a2⟩ := HT2.out
          obtain ⟨⟨b0, b1, b2, b3⟩, bf⟩ := HV2.out
          obtain ⟨⟨z0, z1, z2, z3⟩, zf⟩ := HZ2.out
          simp only at a0 a1 a2 b0 b1 b2 b3 z0 z1 z2 z3
          go_wp2_with fail
          refine (C2.out _).mono ?_
          rintro r2 wx ⟨rfl, rfl⟩
          go_wp2_with fail
          refine (C3.out _).mono ?_
          rintro r2 wx ⟨rfl, rfl⟩
          go_upto_region 2 with (fail)
          have HB9 := Lib.hid (below_set4 HB2.out HG.out.2 (.int .u64 ve) (.int .i64 vt) (.int .i64 vu) (.int .i64 vw))
          have HZ9 := Lib.hid (HZ2.out.set ⟨ve, vt, vu, vw⟩)
          simp only at HZ9
          go_wp2_with fail
          clear a0 a1 a2 b0 b1 b2 b3 bf z0 z1 z2 z3 zf
          obtain ⟨⟨r0, r1, r2, r3⟩, _⟩ := HZ9.out
          simp only at r0 r1 r2 r3
          exact bodyPost_ret (v := .tuple #[.agg #[.int .u64 ve, .int .i64 vt, .int .i64 vu, .int .i64 vw], .bool false, .int .i64 1]) (by simp [results, Try.results12, go_sem, r0, r1, r2, r3]) rfl ⟨by rw [HRV.out, HEV.out, HBV.out], HB9.out⟩
        | true =>
          cases q4 with
          | true =>
            have HEV : Hid (E = 0) := Lib.hid (HE.out.trans (by simp))
            have HBV : Hid (B = false) := Lib.hid (HA.out.trans (by rw [HEV.out]; rfl))
            have HRV : Hid (R = ⟨ve, vt, vu, vw⟩) := Lib.hid ((HR.out.trans (by rw [if_pos HEV.out])).trans (HNo.out HGR.out))
            clear HE HR HA HY HNo HGR
            clear HX HN
            go_enter Try.func12, Try.ntmps12
            go_upto_region 1 with (fail)
            generalize (((w.alloc (.cells #[.int .i64 t, .int .i64 d, .int .i64 r] 23)).alloc (.cells #[.int .u64 ve, .int .i64 vt, .int .i64 vu, .int .i64 vw] 38)).alloc (.cells #[.int .u64 0, .int .i64 0, .int .i64 0, .int .i64 0] 38)) = w1 at *
            generalize hg1 : w.heap.size + 1 = g1 at *
            generalize hg2 : g1 + 1 = g2 at *
            have HG : Hid (w.heap.size ≤ g1 ∧ w.heap.size ≤ g2) := Lib.hid (by omega)
            have n01 : ¬ w.heap.size = g1 := by omega
            have n02 : ¬ w.heap.size = g2 := by omega
            have n12 : ¬ g1 = g2 := by omega
            have n10 : ¬ g1 = w.heap.size := by omega
            have n20 : ¬ g2 = w.heap.size := by omega
            have n21 : ¬ g2 = g1 := by omega
            clear hg1 hg2
            obtain ⟨a0, a1, a2⟩ := HT0.out
            obtain ⟨⟨b0, b1, b2, b3⟩, bf⟩ := HV0.out
            obtain ⟨⟨z0, z1, z2, z3⟩, zf⟩ := HZ0.out
            simp only at a0 a1 a2 b0 b1 b2 b3 z0 z1 z2 z3
            go_wp2_with fail
            refine (C0.out _).mono ?_
            rintro r2 w2 ⟨rfl, hb⟩
            have HB1 := Lib.hid (HB0.out.trans (hb.mono HB0.out.size))
            have HV1 := Lib.hid (HV0.out.on hb)
            have HT1 := Lib.hid (HT0.out.on hb)
            have HZ1 := Lib.hid (HZ0.out.on hb)
            clear hb HB0 HV0 HT0 HZ0
            clear a0 a1 a2 b0 b1 b2 b3 bf z0 z1 z2 z3 zf
            obtain ⟨a0, a1, a2⟩ := HT1.out
            obtain ⟨⟨b0, b1, b2, b3⟩, bf⟩ := HV1.out
            obtain ⟨⟨z0, z1, z2, z3⟩, zf⟩ := HZ1.out
            simp only at a0 a1 a2 b0 b1 b2 b3 z0 z1 z2 z3
            go_wp2_with fail
            refine (C1.out _).mono ?_
            rintro r2 w3 ⟨rfl, hb⟩
            have HB2 := Lib.hid (HB1.out.trans (hb.mono HB1.out.size))
            have HV2 := Lib.hid (HV1.out.on hb)
            have HT2 := Lib.hid (HT1.out.on hb)
            have HZ2 := Lib.hid (HZ1.out.on hb)
            clear hb HB1 HV1 HT1 HZ1
            clear a0 a1 a2 b0 b1 b2 b3 bf z0 z1 z2 z3 zf
            obtain ⟨a0, a1, a2⟩ := HT2.out
            obtain ⟨⟨b0, b1, b2, b3⟩, bf⟩ := HV2.out
            obtain ⟨⟨z0, z1, z2, z3⟩, zf⟩ := HZ2.out
            simp only at a0 a1 a2 b0 b1 b2 b3 z0 z1 z2 z3
            go_wp2_with fail
            refine (C2.out _).mono ?_
            rintro r2 wx ⟨rfl, rfl⟩
            go_wp2_with fail
            refine (C3.out _).mono ?_
            rintro r2 wx ⟨rfl, rfl⟩
            go_upto_region 3 with (fail)
            go_wp2_with fail
            refine (C4.out _).mono ?_
            rintro r2 w4 ⟨rfl, hb⟩
            have HB3 := Lib.hid (HB2.out.trans (hb.mono HB2.out.size))
            have HV3 := Lib.hid (HV2.out.on hb)
            have HT3 := Lib.hid (HT2.out.on hb)
            have HZ3 := Lib.hid (HZ2.out.on hb)
            clear hb HB2 HV2 HT2 HZ2
            clear a0 a1 a2 b0 b1 b2 b3 bf z0 z1 z2 z3 zf
            obtain ⟨a0, a1, a2⟩ := HT3.out
            obtain ⟨⟨b0, b1, b2, b3⟩, bf⟩ := HV3.out
            obtain ⟨⟨z0, z1, z2, z3⟩, zf⟩ := HZ3.out
            simp only at a0 a1 a2 b0 b1 b2 b3 z0 z1 z2 z3
            go_upto_region 4 with (fail)
            have HB9 := Lib.hid (below_set4 HB3.out HG.out.2 (.int .u64 ve) (.int .i64 vt) (.int .i64 vu) (.int .i64 vw))
            have HZ9 := Lib.hid (HZ3.out.set ⟨ve, vt, vu, vw⟩)
            simp only at HZ9
            go_wp2_with fail
            clear a0 a1 a2 b0 b1 b2 b3 bf z0 z1 z2 z3 zf
            obtain ⟨⟨r0, r1, r2, r3⟩, _⟩ := HZ9.out
            simp only at r0 r1 r2 r3
            exact bodyPost_ret (v := .tuple #[.agg #[.int .u64 ve, .int .i64 vt, .int .i64 vu, .int .i64 vw], .bool false, .int .i64 0]) (by simp [results, Try.results12, go_sem, r0, r1, r2, r3]) rfl ⟨by rw [HRV.out, HEV.out, HBV.out], HB9.out⟩
          | false =>
            have HEV : Hid (E = 0) := Lib.hid (HE.out.trans (by simp))
            have HBV : Hid (B = true) := Lib.hid (HA.out.trans (by rw [HEV.out]; rfl))
            have HRV : Hid (R = ⟨e, f, n + t, vw⟩) := Lib.hid ((HR.out.trans (by rw [if_pos HEV.out])).trans (HY.out HGR.out))
            clear HE HR HA HY HNo HGR
            have HWR := Lib.hid ((by have := (HX.out rfl).2; have := HN.out.1 rfl; exact IntWalk.i64_in (n + t) (by omega)) : IntKind.i64.wrap (n + t) = n + t)
            clear HX HN
            go_enter Try.func12, Try.ntmps12
            go_upto_region 1 with (fail)
            generalize (((w.alloc (.cells #[.int .i64 t, .int .i64 d, .int .i64 r] 23)).alloc (.cells #[.int .u64 ve, .int .i64 vt, .int .i64 vu, .int .i64 vw] 38)).alloc (.cells #[.int .u64 0, .int .i64 0, .int .i64 0, .int .i64 0] 38)) = w1 at *
            generalize hg1 : w.heap.size + 1 = g1 at *
            generalize hg2 : g1 + 1 = g2 at *
            have HG : Hid (w.heap.size ≤ g1 ∧ w.heap.size ≤ g2) := Lib.hid (by omega)
            have n01 : ¬ w.heap.size = g1 := by omega
            have n02 : ¬ w.heap.size = g2 := by omega
            have n12 : ¬ g1 = g2 := by omega
            have n10 : ¬ g1 = w.heap.size := by omega
            have n20 : ¬ g2 = w.heap.size := by omega
            have n21 : ¬ g2 = g1 := by omega
            clear hg1 hg2
            obtain ⟨a0, a1, a2⟩ := HT0.out
            obtain ⟨⟨b0, b1, b2, b3⟩, bf⟩ := HV0.out
            obtain ⟨⟨z0, z1, z2, z3⟩, zf⟩ := HZ0.out
            simp only at a0 a1 a2 b0 b1 b2 b3 z0 z1 z2 z3
            go_wp2_with fail
            refine (C0.out _).mono ?_
            rintro r2 w2 ⟨rfl, hb⟩
            have HB1 := Lib.hid (HB0.out.trans (hb.mono HB0.out.size))
            have HV1 := Lib.hid (HV0.out.on hb)
            have HT1 := Lib.hid (HT0.out.on hb)
            have HZ1 := Lib.hid (HZ0.out.on hb)
            clear hb HB0 HV0 HT0 HZ0
            clear a0 a1 a2 b0 b1 b2 b3 bf z0 z1 z2 z3 zf
            obtain ⟨a0, a1, a2⟩ := HT1.out
            obtain ⟨⟨b0, b1, b2, b3⟩, bf⟩ := HV1.out
            obtain ⟨⟨z0, z1, z2, z3⟩, zf⟩ := HZ1.out
            simp only at a0 a1 a2 b0 b1 b2 b3 z0 z1 z2 z3
            go_wp2_with fail
            refine (C1.out _).mono ?_
            rintro r2 w3 ⟨rfl, hb⟩
            have HB2 := Lib.hid (HB1.out.trans (hb.mono HB1.out.size))
            have HV2 := Lib.hid (HV1.out.on hb)
            have HT2 := Lib.hid (HT1.out.on hb)
            have HZ2 := Lib.hid (HZ1.out.on hb)
            clear hb HB1 HV1 HT1 HZ1
            clear a0 a1 a2 b0 b1 b2 b3 bf z0 z1 z2 z3 zf
            obtain ⟨a0, a1, a2⟩ := HT2.out
            obtain ⟨⟨b0, b1, b2, b3⟩, bf⟩ := HV2.out
            obtain ⟨⟨z0, z1, z2, z3⟩, zf⟩ := HZ2.out
            simp only at a0 a1 a2 b0 b1 b2 b3 z0 z1 z2 z3
            go_wp2_with fail
            refine (C2.out _).mono ?_
            rintro r2 wx ⟨rfl, rfl⟩
            go_wp2_with fail
            refine (C3.out _).mono ?_
            rintro r2 wx ⟨rfl, rfl⟩
            go_upto_region 3 with (fail)
            go_wp2_with fail
            refine (C4.out _).mono ?_
            rintro r2 w4 ⟨rfl, hb⟩
            have HB3 := Lib.hid (HB2.out.trans (hb.mono HB2.out.size))
            have HV3 := Lib.hid (HV2.out.on hb)
            have HT3 := Lib.hid (HT2.out.on hb)
            have HZ3 := Lib.hid (HZ2.out.on hb)
            clear hb HB2 HV2 HT2 HZ2
            clear a0 a1 a2 b0 b1 b2 b3 bf z0 z1 z2 z3 zf
            obtain ⟨a0, a1, a2⟩ := HT3.out
            obtain ⟨⟨b0, b1, b2, b3⟩, bf⟩ := HV3.out
            obtain ⟨⟨z0, z1, z2, z3⟩, zf⟩ := HZ3.out
            simp only at a0 a1 a2 b0 b1 b2 b3 z0 z1 z2 z3
            go_upto_region 5 with (fail)
            have hwr := HWR.out
            have HV9 := Lib.hid (HV3.out.set012 e f (n + t))
            have HB9 := Lib.hid (show Below w.heap.size w (((w4.setCell ⟨g1, 0, none⟩ (.int .u64 e)).setCell ⟨g1, 1, none⟩ (.int .i64 f)).setCell ⟨g1, 2, none⟩ (.int .i64 (n + t))) from ((HB3.out.setCell HG.out.1 _).setCell HG.out.1 _).setCell HG.out.1 _)
            simp only at HV9
            have HV10 := Lib.hid (HV9.out.on (Below.refl _ _).drew)
            have HB10 := Lib.hid HB9.out.drew
            have HZ10 := Lib.hid ((((HZ3.out.off (k := 0) n12 (.int .u64 e)).off (k := 1) n12 (.int .i64 f)).off (k := 2) n12 (.int .i64 (n + t))).on (Below.refl _ _).drew)
            try simp only at HV10 HZ10
            go_region
            clear HV9 HB9 hwr
            clear a0 a1 a2 b0 b1 b2 b3 bf z0 z1 z2 z3 zf
            generalize (((w4.setCell ⟨g1, 0, none⟩ (.int .u64 e)).setCell ⟨g1, 1, none⟩ (.int .i64 f)).setCell ⟨g1, 2, none⟩ (.int .i64 (n + t))).drew = w9 at *
            have HB11 := Lib.hid (below_set4 HB10.out HG.out.2 (.int .u64 e) (.int .i64 f) (.int .i64 (n + t)) (.int .i64 vw))
            have HZ11 := Lib.hid (HZ10.out.set ⟨e, f, n + t, vw⟩)
            simp only at HZ11
            obtain ⟨⟨b0, b1, b2, b3⟩, bf⟩ := HV10.out
            obtain ⟨⟨z0, z1, z2, z3⟩, zf⟩ := HZ10.out
            simp only at b0 b1 b2 b3 z0 z1 z2 z3
            go_wp2_with fail
            clear b0 b1 b2 b3 bf z0 z1 z2 z3 zf
            obtain ⟨⟨r0, r1, r2, r3⟩, _⟩ := HZ11.out
            simp only at r0 r1 r2 r3
            exact bodyPost_ret (v := .tuple #[.agg #[.int .u64 e, .int .i64 f, .int .i64 (n + t), .int .i64 vw], .bool true, .int .i64 0]) (by simp [results, Try.results12, go_sem, r0, r1, r2, r3]) rfl ⟨by rw [HRV.out, HEV.out, HBV.out], HB11.out⟩

    ·
      have HEV : Hid (E = 1) := Lib.hid (HE.out.trans (by simp))
      have HBV : Hid (B = false) := Lib.hid (HA.out.trans (by rw [HEV.out]; rfl))
      have HRV : Hid (R = ⟨ve, vt, vu, vw⟩) := Lib.hid (HR.out.trans (by rw [HEV.out]; rfl))
      clear HE HR HA HY HNo HGR
      clear HX HN
      go_enter Try.func12, Try.ntmps12
      go_upto_region 1 with (fail)
      generalize (((w.alloc (.cells #[.int .i64 t, .int .i64 d, .int .i64 r] 23)).alloc (.cells #[.int .u64 ve, .int .i64 vt, .int .i64 vu, .int .i64 vw] 38)).alloc (.cells #[.int .u64 0, .int .i64 0, .int .i64 0, .int .i64 0] 38)) = w1 at *
      generalize hg1 : w.heap.size + 1 = g1 at *
      generalize hg2 : g1 + 1 = g2 at *
      have HG : Hid (w.heap.size ≤ g1 ∧ w.heap.size ≤ g2) := Lib.hid (by omega)
      have n01 : ¬ w.heap.size = g1 := by omega
      have n02 : ¬ w.heap.size = g2 := by omega
      have n12 : ¬ g1 = g2 := by omega
      have n10 : ¬ g1 = w.heap.size := by omega
      have n20 : ¬ g2 = w.heap.size := by omega
      have n21 : ¬ g2 = g1 := by omega
      clear hg1 hg2
      obtain ⟨a0, a1, a2⟩ := HT0.out
      obtain ⟨⟨b0, b1, b2, b3⟩, bf⟩ := HV0.out
      obtain ⟨⟨z0, z1, z2, z3⟩, zf⟩ := HZ0.out
      simp only at a0 a1 a2 b0 b1 b2 b3 z0 z1 z2 z3
      go_wp2_with fail
      refine (C0.out _).mono ?_
      rintro r2 w2 ⟨rfl, hb⟩
      have HB1 := Lib.hid (HB0.out.trans (hb.mono HB0.out.size))
      have HV1 := Lib.hid (HV0.out.on hb)
      have HT1 := Lib.hid (HT0.out.on hb)
      have HZ1 := Lib.hid (HZ0.out.on hb)
      clear hb HB0 HV0 HT0 HZ0
      clear a0 a1 a2 b0 b1 b2 b3 bf z0 z1 z2 z3 zf
      obtain ⟨a0, a1, a2⟩ := HT1.out
      obtain ⟨⟨b0, b1, b2, b3⟩, bf⟩ := HV1.out
      obtain ⟨⟨z0, z1, z2, z3⟩, zf⟩ := HZ1.out
      simp only at a0 a1 a2 b0 b1 b2 b3 z0 z1 z2 z3
      go_wp2_with fail
      refine (C1.out _).mono ?_
      rintro r2 w3 ⟨rfl, hb⟩
      have HB2 := Lib.hid (HB1.out.trans (hb.mono HB1.out.size))
      have HV2 := Lib.hid (HV1.out.on hb)
      have HT2 := Lib.hid (HT1.out.on hb)
      have HZ2 := Lib.hid (HZ1.out.on hb)
      clear hb HB1 HV1 HT1 HZ1
      clear a0 a1 a2 b0 b1 b2 b3 bf z0 z1 z2 z3 zf
      obtain ⟨a0, a1, a2⟩ := HT2.out
      obtain ⟨⟨b0, b1, b2, b3⟩, bf⟩ := HV2.out
      obtain ⟨⟨z0, z1, z2, z3⟩, zf⟩ := HZ2.out
      simp only at a0 a1 a2 b0 b1 b2 b3 z0 z1 z2 z3
      go_upto_region 2 with (fail)
      have HB9 := Lib.hid (below_set4 HB2.out HG.out.2 (.int .u64 ve) (.int .i64 vt) (.int .i64 vu) (.int .i64 vw))
      have HZ9 := Lib.hid (HZ2.out.set ⟨ve, vt, vu, vw⟩)
      simp only at HZ9
      go_wp2_with fail
      clear a0 a1 a2 b0 b1 b2 b3 bf z0 z1 z2 z3 zf
      obtain ⟨⟨r0, r1, r2, r3⟩, _⟩ := HZ9.out
      simp only at r0 r1 r2 r3
      exact bodyPost_ret (v := .tuple #[.agg #[.int .u64 ve, .int .i64 vt, .int .i64 vu, .int .i64 vw], .bool false, .int .i64 1]) (by simp [results, Try.results12, go_sem, r0, r1, r2, r3]) rfl ⟨by rw [HRV.out, HEV.out, HBV.out], HB9.out⟩
  ·
    have HEV : Hid (E = 1) := Lib.hid (HE.out.trans (by simp))
    have HBV : Hid (B = false) := Lib.hid (HA.out.trans (by rw [HEV.out]; rfl))
    have HRV : Hid (R = ⟨ve, vt, vu, vw⟩) := Lib.hid (HR.out.trans (by rw [HEV.out]; rfl))
    clear HE HR HA HY HNo HGR
    clear HX HN
    go_enter Try.func12, Try.ntmps12
    go_upto_region 1 with (fail)
    generalize (((w.alloc (.cells #[.int .i64 t, .int .i64 d, .int .i64 r] 23)).alloc (.cells #[.int .u64 ve, .int .i64 vt, .int .i64 vu, .int .i64 vw] 38)).alloc (.cells #[.int .u64 0, .int .i64 0, .int .i64 0, .int .i64 0] 38)) = w1 at *
    generalize hg1 : w.heap.size + 1 = g1 at *
    generalize hg2 : g1 + 1 = g2 at *
    have HG : Hid (w.heap.size ≤ g1 ∧ w.heap.size ≤ g2) := Lib.hid (by omega)
    have n01 : ¬ w.heap.size = g1 := by omega
    have n02 : ¬ w.heap.size = g2 := by omega
    have n12 : ¬ g1 = g2 := by omega
    have n10 : ¬ g1 = w.heap.size := by omega
    have n20 : ¬ g2 = w.heap.size := by omega
    have n21 : ¬ g2 = g1 := by omega
    clear hg1 hg2
    obtain ⟨a0, a1, a2⟩ := HT0.out
    obtain ⟨⟨b0, b1, b2, b3⟩, bf⟩ := HV0.out
    obtain ⟨⟨z0, z1, z2, z3⟩, zf⟩ := HZ0.out
    simp only at a0 a1 a2 b0 b1 b2 b3 z0 z1 z2 z3
    go_wp2_with fail
    refine (C0.out _).mono ?_
    rintro r2 w2 ⟨rfl, hb⟩
    have HB1 := Lib.hid (HB0.out.trans (hb.mono HB0.out.size))
    have HV1 := Lib.hid (HV0.out.on hb)
    have HT1 := Lib.hid (HT0.out.on hb)
    have HZ1 := Lib.hid (HZ0.out.on hb)
    clear hb HB0 HV0 HT0 HZ0
    clear a0 a1 a2 b0 b1 b2 b3 bf z0 z1 z2 z3 zf
    obtain ⟨a0, a1, a2⟩ := HT1.out
    obtain ⟨⟨b0, b1, b2, b3⟩, bf⟩ := HV1.out
    obtain ⟨⟨z0, z1, z2, z3⟩, zf⟩ := HZ1.out
    simp only at a0 a1 a2 b0 b1 b2 b3 z0 z1 z2 z3
    go_upto_region 2 with (fail)
    have HB9 := Lib.hid (below_set4 HB1.out HG.out.2 (.int .u64 ve) (.int .i64 vt) (.int .i64 vu) (.int .i64 vw))
    have HZ9 := Lib.hid (HZ1.out.set ⟨ve, vt, vu, vw⟩)
    simp only at HZ9
    go_wp2_with fail
    clear a0 a1 a2 b0 b1 b2 b3 bf z0 z1 z2 z3 zf
    obtain ⟨⟨r0, r1, r2, r3⟩, _⟩ := HZ9.out
    simp only at r0 r1 r2 r3
    exact bodyPost_ret (v := .tuple #[.agg #[.int .u64 ve, .int .i64 vt, .int .i64 vu, .int .i64 vw], .bool false, .int .i64 1]) (by simp [results, Try.results12, go_sem, r0, r1, r2, r3]) rfl ⟨by rw [HRV.out, HEV.out, HBV.out], HB9.out⟩
end Go.Proofs.Ytlefnohcfnlejaa
