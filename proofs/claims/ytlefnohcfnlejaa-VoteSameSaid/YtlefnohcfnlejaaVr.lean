/-
  Whole contracts: one that begins again, one that is asked.
-/
import Derived.Test.YtlefnohcfnlejaaVn
namespace Go.Proofs.Ytlefnohcfnlejaa
open Go.Sort Go.RowKit Go.Proofs.Ytlefnohcfnlejaa.Pure

theorem holdE_nil {x : Tm} (h : holdE x = 0) : ¬ holdF x = 0 ∧ 1 ≤ x.t ∧ x.t ≤ 1000000 := by
  have h1 : ¬ holdF x = 0 := fun h0 => by unfold holdE at h; rw [if_pos h0] at h; cases h
  have h2 := (tmB_iff x).1 (hold_pos h1).1
  exact ⟨h1, h2.1, h2.2.1⟩
theorem holdE_cases (x : Tm) : holdE x = 0 ∨ holdE x = 1 := by unfold holdE; split <;> simp
theorem rsE_parts (x : Tm) (t n : Int) : rsE x t n = if holdE x = 0 ∧ toB t = true ∧ momB n = true then 0 else 1 := by
  unfold rsE
  by_cases h0 : holdF x = 0
  · rw [if_pos (.inl h0), if_neg (fun h => (holdE_nil h.1).1 h0)]
  · have hE : holdE x = 0 := by unfold holdE; rw [if_neg h0]
    cases h1 : toB t <;> cases h2 : momB n <;> simp [h0, hE]
theorem akE_parts (x : Tm) (v : Vt) (f n : Int) : akE x v f n = if holdE x = 0 ∧ ckE v = 0 ∧ nodeV f = true ∧ momB n = true then 0 else 1 := by
  unfold akE ckE
  by_cases h0 : holdF x = 0
  · rw [if_pos (.inl h0), if_neg (fun h => (holdE_nil h.1).1 h0)]
  · have hE : holdE x = 0 := by unfold holdE; rw [if_neg h0]
    cases h1 : mayV v <;> cases h2 : nodeV f <;> cases h3 : momB n <;> simp [h0, hE]
theorem ckE_cases (v : Vt) : ckE v = 0 ∨ ckE v = 1 := by unfold ckE; split <;> simp
set_option maxRecDepth 100000 in
set_option maxHeartbeats 2000000 in
theorem restart_any (x : Tm) (e to_ n : Int) (w : World) : Calls Try.prog 19 #[.agg #[.int .i64 x.t, .int .i64 x.d, .int .i64 x.r], .int .u64 e, .int .i64 to_, .int .i64 n] w fun r w' => r = .returned (.tuple #[.agg #[.int .u64 (rsR x e to_ n).e, .int .i64 (rsR x e to_ n).t, .int .i64 (rsR x e to_ n).u, .int .i64 (rsR x e to_ n).w], .int .i64 (rsE x to_ n)]) ∧ Below w.heap.size w w' := by
  have HE := Lib.hid (rsE_parts x to_ n)
  have HR : Hid (rsR x e to_ n = if rsE x to_ n = 0 then resV x.t e to_ n else ⟨0, 0, 0, 0⟩) := Lib.hid rfl
  have C0 := Lib.hid (fun W => may_any x W)
  have C1 := Lib.hid (fun W => mayPromise_any to_ W)
  have C2 := Lib.hid (fun W => isTick_any n W)
  have HX := Lib.hid (holdE_nil (x := x))
  have HN := Lib.hid (show momB n = true ↔ 0 ≤ n ∧ n ≤ 1099511627776 from by unfold momB; simp)
  have hEc := holdE_cases x
  generalize rsR x e to_ n = R at *
  generalize rsE x to_ n = E at *
  generalize holdE x = q at *
  generalize holdF x = qf at *
  generalize toB to_ = q1 at *
  generalize momB n = q2 at *
  obtain ⟨t, d, r⟩ := x
  simp only at HR C0 HX ⊢
  have HB0 := Lib.hid (show Below w.heap.size w ((w.alloc (.cells #[.int .i64 t, .int .i64 d, .int .i64 r] 23)).alloc (.cells #[.int .u64 0, .int .i64 0, .int .i64 0, .int .i64 0] 38)) from ((Below.refl _ _).alloc (Nat.le_refl _) _).alloc (by simp) _)
  have HT0 : Hid (TmA ((w.alloc (.cells #[.int .i64 t, .int .i64 d, .int .i64 r] 23)).alloc (.cells #[.int .u64 0, .int .i64 0, .int .i64 0, .int .i64 0] 38)) w.heap.size ⟨t, d, r⟩) := Lib.hid ((TmA.new w ⟨t, d, r⟩ _).on ((Below.refl _ _).alloc (Nat.le_refl _) _))
  have HV0 : Hid (VtW ((w.alloc (.cells #[.int .i64 t, .int .i64 d, .int .i64 r] 23)).alloc (.cells #[.int .u64 0, .int .i64 0, .int .i64 0, .int .i64 0] 38)) (w.alloc (.cells #[.int .i64 t, .int .i64 d, .int .i64 r] 23)).heap.size ⟨0, 0, 0, 0⟩) := Lib.hid (VtW.new (w.alloc (.cells #[.int .i64 t, .int .i64 d, .int .i64 r] 23)) ⟨0, 0, 0, 0⟩ _)
  have hsz : (w.alloc (.cells #[.int .i64 t, .int .i64 d, .int .i64 r] 23)).heap.size = w.heap.size + 1 := by simp
  rw [hsz] at HV0
  clear hsz
  rcases hEc with rfl | rfl
  · cases q1 with
    | false =>
      have HEV : Hid (E = 1) := Lib.hid (HE.out.trans (by simp))
      have HRV : Hid (R = ⟨0, 0, 0, 0⟩) := Lib.hid (HR.out.trans (by rw [HEV.out]; rfl))
      clear HE HR
      go_enter Try.func19, Try.ntmps19
      go_upto_region 1 with (fail)
      generalize ((w.alloc (.cells #[.int .i64 t, .int .i64 d, .int .i64 r] 23)).alloc (.cells #[.int .u64 0, .int .i64 0, .int .i64 0, .int .i64 0] 38)) = w1 at *
      generalize hg1 : w.heap.size + 1 = g1 at *
      have HG1 : Hid (w.heap.size ≤ g1) := Lib.hid (by omega)
      clear hg1
      obtain ⟨a0, a1, a2⟩ := HT0.out
      simp only at a0 a1 a2
      go_wp2_with fail
      refine (C0.out _).mono ?_
      rintro r2 w2 ⟨rfl, hb⟩
      have HB2 := Lib.hid (HB0.out.trans (hb.mono HB0.out.size))
      have HV2 := Lib.hid (HV0.out.on hb)
      have HT2 := Lib.hid (HT0.out.on hb)
      clear hb a0 a1 a2 HB0 HV0 HT0
      obtain ⟨a0, a1, a2⟩ := HT2.out
      simp only at a0 a1 a2
      go_wp2_with fail
      refine (C1.out _).mono ?_
      rintro r3 w3 ⟨rfl, rfl⟩
      go_upto_region 2 with (fail)
      have HB3 := Lib.hid (below_set4 HB2.out HG1.out (.int .u64 0) (.int .i64 0) (.int .i64 0) (.int .i64 0))
      have HV3 := Lib.hid (HV2.out.set ⟨0, 0, 0, 0⟩)
      simp only at HV3
      obtain ⟨⟨b0, b1, b2, b3⟩, bf⟩ := HV2.out
      simp only at b0 b1 b2 b3
      go_wp2_with fail
      clear b0 b1 b2 b3 bf
      obtain ⟨⟨r0, r1, r2, r3⟩, _⟩ := HV3.out
      simp only at r0 r1 r2 r3
      exact bodyPost_ret (v := .tuple #[.agg #[.int .u64 0, .int .i64 0, .int .i64 0, .int .i64 0], .int .i64 1]) (by simp [results, Try.results19, go_sem, r0, r1, r2, r3]) rfl ⟨by rw [HRV.out, HEV.out], HB3.out⟩
    | true =>
      cases q2 with
      | false =>
        have HEV : Hid (E = 1) := Lib.hid (HE.out.trans (by simp))
        have HRV : Hid (R = ⟨0, 0, 0, 0⟩) := Lib.hid (HR.out.trans (by rw [HEV.out]; rfl))
        clear HE HR
        go_enter Try.func19, Try.ntmps19
        go_upto_region 1 with (fail)
        generalize ((w.alloc (.cells #[.int .i64 t, .int .i64 d, .int .i64 r] 23)).alloc (.cells #[.int .u64 0, .int .i64 0, .int .i64 0, .int .i64 0] 38)) = w1 at *
        generalize hg1 : w.heap.size + 1 = g1 at *
        have HG1 : Hid (w.heap.size ≤ g1) := Lib.hid (by omega)
        clear hg1
        obtain ⟨a0, a1, a2⟩ := HT0.out
        simp only at a0 a1 a2
        go_wp2_with fail
        refine (C0.out _).mono ?_
        rintro r2 w2 ⟨rfl, hb⟩
        have HB2 := Lib.hid (HB0.out.trans (hb.mono HB0.out.size))
        have HV2 := Lib.hid (HV0.out.on hb)
        have HT2 := Lib.hid (HT0.out.on hb)
        clear hb a0 a1 a2 HB0 HV0 HT0
        obtain ⟨a0, a1, a2⟩ := HT2.out
        simp only at a0 a1 a2
        go_wp2_with fail
        refine (C1.out _).mono ?_
        rintro r3 w3 ⟨rfl, rfl⟩
        go_wp2_with fail
        refine (C2.out _).mono ?_
        rintro r4 w3 ⟨rfl, rfl⟩
        go_upto_region 2 with (fail)
        have HB3 := Lib.hid (below_set4 HB2.out HG1.out (.int .u64 0) (.int .i64 0) (.int .i64 0) (.int .i64 0))
        have HV3 := Lib.hid (HV2.out.set ⟨0, 0, 0, 0⟩)
        simp only at HV3
        obtain ⟨⟨b0, b1, b2, b3⟩, bf⟩ := HV2.out
        simp only at b0 b1 b2 b3
        go_wp2_with fail
        clear b0 b1 b2 b3 bf
        obtain ⟨⟨r0, r1, r2, r3⟩, _⟩ := HV3.out
        simp only at r0 r1 r2 r3
        exact bodyPost_ret (v := .tuple #[.agg #[.int .u64 0, .int .i64 0, .int .i64 0, .int .i64 0], .int .i64 1]) (by simp [results, Try.results19, go_sem, r0, r1, r2, r3]) rfl ⟨by rw [HRV.out, HEV.out], HB3.out⟩
      | true =>
        have HEV : Hid (E = 0) := Lib.hid (HE.out.trans (by simp))
        have HRV : Hid (R = ⟨e, to_, 0, n + t⟩) := Lib.hid (HR.out.trans (by rw [HEV.out]; rfl))
        clear HE HR
        have hwr := (by have := (HX.out rfl).2; have := HN.out.1 rfl; exact IntWalk.i64_in (n + t) (by omega) : IntKind.i64.wrap (n + t) = n + t)
        have HWR := Lib.hid hwr
        clear hwr
        go_enter Try.func19, Try.ntmps19
        go_upto_region 1 with (fail)
        generalize ((w.alloc (.cells #[.int .i64 t, .int .i64 d, .int .i64 r] 23)).alloc (.cells #[.int .u64 0, .int .i64 0, .int .i64 0, .int .i64 0] 38)) = w1 at *
        generalize hg1 : w.heap.size + 1 = g1 at *
        have HG1 : Hid (w.heap.size ≤ g1) := Lib.hid (by omega)
        clear hg1
        obtain ⟨a0, a1, a2⟩ := HT0.out
        simp only at a0 a1 a2
        go_wp2_with fail
        refine (C0.out _).mono ?_
        rintro r2 w2 ⟨rfl, hb⟩
        have HB2 := Lib.hid (HB0.out.trans (hb.mono HB0.out.size))
        have HV2 := Lib.hid (HV0.out.on hb)
        have HT2 := Lib.hid (HT0.out.on hb)
        clear hb a0 a1 a2 HB0 HV0 HT0
        obtain ⟨a0, a1, a2⟩ := HT2.out
        simp only at a0 a1 a2
        go_wp2_with fail
        refine (C1.out _).mono ?_
        rintro r3 w3 ⟨rfl, rfl⟩
        go_wp2_with fail
        refine (C2.out _).mono ?_
        rintro r4 w3 ⟨rfl, rfl⟩
        go_upto_region 3 with (fail)
        have hwr := HWR.out
        have HB3 := Lib.hid (below_set4 HB2.out HG1.out (.int .u64 e) (.int .i64 to_) (.int .i64 0) (.int .i64 (n + t)))
        have HV3 := Lib.hid (HV2.out.set ⟨e, to_, 0, n + t⟩)
        simp only at HV3
        obtain ⟨⟨b0, b1, b2, b3⟩, bf⟩ := HV2.out
        simp only at b0 b1 b2 b3
        go_wp2_with fail
        clear b0 b1 b2 b3 bf
        obtain ⟨⟨r0, r1, r2, r3⟩, _⟩ := HV3.out
        simp only at r0 r1 r2 r3
        exact bodyPost_ret (v := .tuple #[.agg #[.int .u64 e, .int .i64 to_, .int .i64 0, .int .i64 (n + t)], .int .i64 0]) (by simp [results, Try.results19, go_sem, r0, r1, r2, r3]) rfl ⟨by rw [HRV.out, HEV.out], HB3.out⟩
  ·
    have HEV : Hid (E = 1) := Lib.hid (HE.out.trans (by simp))
    have HRV : Hid (R = ⟨0, 0, 0, 0⟩) := Lib.hid (HR.out.trans (by rw [HEV.out]; rfl))
    clear HE HR
    go_enter Try.func19, Try.ntmps19
    go_upto_region 1 with (fail)
    generalize ((w.alloc (.cells #[.int .i64 t, .int .i64 d, .int .i64 r] 23)).alloc (.cells #[.int .u64 0, .int .i64 0, .int .i64 0, .int .i64 0] 38)) = w1 at *
    generalize hg1 : w.heap.size + 1 = g1 at *
    have HG1 : Hid (w.heap.size ≤ g1) := Lib.hid (by omega)
    clear hg1
    obtain ⟨a0, a1, a2⟩ := HT0.out
    simp only at a0 a1 a2
    go_wp2_with fail
    refine (C0.out _).mono ?_
    rintro r2 w2 ⟨rfl, hb⟩
    have HB2 := Lib.hid (HB0.out.trans (hb.mono HB0.out.size))
    have HV2 := Lib.hid (HV0.out.on hb)
    have HT2 := Lib.hid (HT0.out.on hb)
    clear hb a0 a1 a2 HB0 HV0 HT0
    obtain ⟨a0, a1, a2⟩ := HT2.out
    simp only at a0 a1 a2
    go_upto_region 2 with (fail)
    have HB3 := Lib.hid (below_set4 HB2.out HG1.out (.int .u64 0) (.int .i64 0) (.int .i64 0) (.int .i64 0))
    have HV3 := Lib.hid (HV2.out.set ⟨0, 0, 0, 0⟩)
    simp only at HV3
    obtain ⟨⟨b0, b1, b2, b3⟩, bf⟩ := HV2.out
    simp only at b0 b1 b2 b3
    go_wp2_with fail
    clear b0 b1 b2 b3 bf
    obtain ⟨⟨r0, r1, r2, r3⟩, _⟩ := HV3.out
    simp only at r0 r1 r2 r3
    exact bodyPost_ret (v := .tuple #[.agg #[.int .u64 0, .int .i64 0, .int .i64 0, .int .i64 0], .int .i64 1]) (by simp [results, Try.results19, go_sem, r0, r1, r2, r3]) rfl ⟨by rw [HRV.out, HEV.out], HB3.out⟩
end Go.Proofs.Ytlefnohcfnlejaa
