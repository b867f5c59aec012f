/-
  The walk of GraceTells where doubts may not be.
-/
import Derived.Test.YtknpbbplolncpaaTellsKit
namespace Go.Proofs.Ytknpbbplolncpaa.lawTells
open Go.Sort Go.ChangeShapes Go.WideShapes Go.ChangeAt Go.RowKit Go.Proofs.Ytknpbbplolncpaa.Pure

set_option maxRecDepth 100000 in
set_option maxHeartbeats 16000000 in
theorem walk_not (A : Option Addr) (c : Nat) (q : List Db) (r : Ru) (n k who b inc now : Int) (w : World) (q1 : q.length ≤ c) (q2 : c ≤ maxLen) (q3 : Ds w w.heap.size A q) (hmd : mayD (fewD (q.map Db.ct)) = false) : Calls Try.prog 3 #[.agg #[.slice A q.length c, .int .i64 r.mn, .int .i64 r.mo, .int .i64 r.al, .int .i64 n, .int .i64 k, .int .i64 who, .int .i64 b, .int .u64 inc, .int .i64 now]] w fun e w' => e = .returned (.bool true) ∧ Below w.heap.size w w' := by
  have HBa : Hid (Below w.heap.size w (w.alloc (.cells #[.slice A q.length c, .int .i64 r.mn, .int .i64 r.mo, .int .i64 r.al, .int .i64 n, .int .i64 k, .int .i64 who, .int .i64 b, .int .u64 inc, .int .i64 now] 27))) := Lib.hid ((Below.refl _ w).alloc (Nat.le_refl _) _)
  have BK0 : Hid (Bk (w.alloc (.cells #[.slice A q.length c, .int .i64 r.mn, .int .i64 r.mo, .int .i64 r.al, .int .i64 n, .int .i64 k, .int .i64 who, .int .i64 b, .int .u64 inc, .int .i64 now] 27)) w.heap.size A q.length c r n k who b inc now) := Lib.hid (Bk.new w A q.length c r n k who b inc now _)
  have HF := Lib.hid (l_few A c w.heap.size q (w.alloc (.cells #[.slice A q.length c, .int .i64 r.mn, .int .i64 r.mo, .int .i64 r.al, .int .i64 n, .int .i64 k, .int .i64 who, .int .i64 b, .int .u64 inc, .int .i64 now] 27)) (q3.on HBa.out (Nat.le_refl _)) HBa.out.size q1 q2)
  have HSM := Lib.hid (fewd_sm (q.map Db.ct))
  have HRL : Hid ((fewD (q.map Db.ct)).length ≤ 400) := Lib.hid (by have := (few_sm (q.map Db.ct)).1; omega)
  have HMD := Lib.hid hmd
  generalize fewD (q.map Db.ct) = R at *
  obtain ⟨J, hJ⟩ : ∃ J, rulesB r = J := ⟨_, rfl⟩
  obtain ⟨T1, h1⟩ : ∃ T, decide (1 ≤ n) = T := ⟨_, rfl⟩
  obtain ⟨T2, h2⟩ : ∃ T, decide (n ≤ 64) = T := ⟨_, rfl⟩
  obtain ⟨T3, h3⟩ : ∃ T, decide (k < 0) = T := ⟨_, rfl⟩
  obtain ⟨NB, hNB⟩ : ∃ T, (T1 && T2) = T := ⟨_, rfl⟩
  obtain ⟨bad, hbad⟩ : ∃ T, (!J || (!(T1 && T2) || T3)) = T := ⟨_, rfl⟩
  have HG0 := Lib.hid (rel_grace hJ h1 h2 h3 hbad)
  rw [hNB] at hbad
  have HNB := Lib.hid hNB
  have HBAD := Lib.hid hbad
  have HGG := Lib.hid (fun W : World => grace_any r n k W)
  have HRU := Lib.hid (fun W : World => rules_any r W)
  have HMR := Lib.hid (fun W : World => mayR_any r W)
  rw [hJ] at HRU HMR
  have HR1 := Lib.hid (fun (v : Value) (W : World) (h : Va W v R) => l_raise v R W who inc b now HSM.out h)
  have HC1 := Lib.hid (fun (v : Value) (W : World) (h : Va W v R) => l_clear v R W who inc HSM.out h)
  have HP1 := Lib.hid (fun (v : Value) (W : World) (h : Va W v R) => l_ripe v R W r n now HSM.out h)
  have HSA := Lib.hid (HSM.out.raise who inc b now)
  have HSC := Lib.hid (HSM.out.clear who inc)
  have HRA : Hid ((raiseA R who inc b now).1 = R) := Lib.hid (by unfold raiseA mayR; rw [hmd]; rfl)
  have HEA : Hid ((raiseA R who inc b now).2 = 1) := Lib.hid (by unfold raiseA mayR; rw [hmd]; rfl)
  have HCA : Hid ((clearA R who inc).1 = R) := Lib.hid (by unfold clearA; rw [hmd]; rfl)
  have HEC : Hid ((clearA R who inc).2 = 1) := Lib.hid (by unfold clearA; rw [hmd]; rfl)
  have HPA : Hid ((ripeA R r n now).1 = []) := Lib.hid (by unfold ripeA mayP; rw [hmd]; cases mayG r n 0 <;> rfl)
  have HPB : Hid ((ripeA R r n now).2.1 = []) := Lib.hid (by unfold ripeA mayP; rw [hmd]; cases mayG r n 0 <;> rfl)
  have HEP : Hid ((ripeA R r n now).2.2 = 1) := Lib.hid (by unfold ripeA mayP; rw [hmd]; cases mayG r n 0 <;> rfl)
  have H3 := Lib.hid h3
  obtain ⟨g1, hg1⟩ : ∃ g, g = (graceA r n k).1 := ⟨_, rfl⟩
  obtain ⟨g2, hg2⟩ : ∃ g, g = (graceA r n k).2 := ⟨_, rfl⟩
  rw [← hg1, ← hg2] at HGG
  have HEG1 := Lib.hid hg1
  have HEG2 := Lib.hid hg2
  clear hg1 hg2
  generalize hRA : (raiseA R who inc b now).1 = RA at *
  generalize hea : (raiseA R who inc b now).2 = ea at *
  generalize hCA : (clearA R who inc).1 = CA at *
  generalize hec : (clearA R who inc).2 = ec at *
  generalize hPA : (ripeA R r n now).1 = PA at *
  generalize hPB : (ripeA R r n now).2.1 = PB at *
  generalize hep : (ripeA R r n now).2.2 = ep at *
  have HK := Lib.hid (fun (v : Value) (W : World) (h : Va W v R) => l_check v R W HSM.out h false hmd)
  have HM := Lib.hid (fun (v : Value) (W : World) (h : Va W v R) => l_rmay v R W HSM.out h false hmd)
  obtain ⟨S1, hS1⟩ : ∃ S, decide (R = RA) = S := ⟨_, rfl⟩
  obtain ⟨S2, hS2⟩ : ∃ S, decide (R = CA) = S := ⟨_, rfl⟩
  have HE1 := Lib.hid (fun (v v' : Value) (W : World) (h : Va W v R) (h' : Va W v' RA) => l_same v v' R RA W HSM.out h h' S1 hS1)
  have HE2 := Lib.hid (fun (v v' : Value) (W : World) (h : Va W v R) (h' : Va W v' RA) => l_rsame v v' R RA W HSM.out h h' S1 hS1)
  have HE3 := Lib.hid (fun (v v' : Value) (W : World) (h : Va W v R) (h' : Va W v' CA) => l_same v v' R CA W HSM.out h h' S2 hS2)
  have HE4 := Lib.hid (fun (v v' : Value) (W : World) (h : Va W v R) (h' : Va W v' CA) => l_rsame v v' R CA W HSM.out h h' S2 hS2)
  clear q1 q2 q3 hmd hJ h3 hNB hbad hS1 hS2 hRA hea hCA hec hPA hPB hep
  go_enter Try.func3, Try.ntmps3
  go_upto_region 1 with (fail)
  generalize (w.alloc (.cells #[.slice A q.length c, .int .i64 r.mn, .int .i64 r.mo, .int .i64 r.al, .int .i64 n, .int .i64 k, .int .i64 who, .int .i64 b, .int .u64 inc, .int .i64 now] 27)) = w1 at *
  obtain ⟨x0, x1, x2, x3, x4, x5, x6, x7, x8, x9⟩ := BK0.out
  go_wp2_with fail
  refine HF.out.mono ?_
  rintro e w2 ⟨v, rfl, hv, hb⟩
  clear x0 x1 x2 x3 x4 x5 x6 x7 x8 x9 HF
  have HB_1 : Hid (Below w.heap.size w w2) := Lib.hid (HBa.out.trans (hb.mono HBa.out.size))
  have B_1 := Lib.hid (BK0.out.on hb)
  clear HBa BK0 hb
  have HV := Lib.hid hv
  clear hv
  obtain ⟨x0, x1, x2, x3, x4, x5, x6, x7, x8, x9⟩ := B_1.out
  go_wp2_with fail
  refine (HGG.out _).mono ?_
  rintro e wv0 ⟨rfl, hb⟩
  clear x0 x1 x2 x3 x4 x5 x6 x7 x8 x9
  have HB_2 : Hid (Below w.heap.size w wv0) := Lib.hid (HB_1.out.trans (hb.mono HB_1.out.size))
  have B_2 := Lib.hid (B_1.out.on hb)
  have V_2 := Lib.hid (HV.out.on hb)
  clear HB_1 B_1 HV hb
  clear HGG
  go_upto_region 3 with (fail)
  go_cut [6] from 27 to 34 (fun s0 wx => s0 = .bool NB ∧ wv0 = wx)
  case first =>
    have hnb := HNB.out
    clear HNB
    rcases T1 with _ | _
    · obtain rfl : NB = false := by rw [← hnb]; rfl
      obtain ⟨x0, x1, x2, x3, x4, x5, x6, x7, x8, x9⟩ := B_2.out
      go_wp2_with fail
      go_meet
      exact ⟨rfl, rfl⟩
    · obtain rfl : NB = T2 := by rw [← hnb]; rfl
      obtain ⟨x0, x1, x2, x3, x4, x5, x6, x7, x8, x9⟩ := B_2.out
      go_wp2_with fail
      go_meet
      exact ⟨rfl, rfl⟩
  obtain ⟨rfl, rfl⟩ := hcut
  have h3 : decide (k < 0) = T3 := H3.out
  go_upto_region 4 with (fail)
  go_cut [47] from 35 to 47 (fun s0 wx => s0 = .bool bad ∧ Hid (Below wv0.heap.size wv0 wx))
  case first =>
    have hbd := HBAD.out
    clear HBAD
    obtain ⟨x0, x1, x2, x3, x4, x5, x6, x7, x8, x9⟩ := B_2.out
    go_wp2_with fail
    refine (HRU.out _).mono ?_
    rintro e wv2 ⟨rfl, hb⟩
    clear x0 x1 x2 x3 x4 x5 x6 x7 x8 x9
    have HB_3 : Hid (Below wv0.heap.size wv0 wv2) := Lib.hid hb
    have B_3 := Lib.hid (B_2.out.on hb)
    have V_3 := Lib.hid (V_2.out.on hb)
    clear B_2 V_2 hb
    rcases J with _ | _
    · obtain rfl : bad = true := by rw [← hbd]; rfl
      go_wp2_with fail
      go_meet
      exact ⟨rfl, HB_3⟩
    · rcases NB with _ | _
      · obtain rfl : bad = true := by rw [← hbd]; rfl
        go_wp2_with fail
        go_meet
        exact ⟨rfl, HB_3⟩
      · obtain rfl : bad = T3 := by rw [← hbd]; rfl
        obtain ⟨x0, x1, x2, x3, x4, x5, x6, x7, x8, x9⟩ := B_3.out
        go_wp2_with fail
        go_meet
        exact ⟨rfl, HB_3⟩
  obtain ⟨rfl, HCU⟩ := hcut
  obtain ⟨wk4, ewc⟩ : ∃ x, x = wc := ⟨_, rfl⟩
  subst ewc
  have hb := HCU.out
  clear HCU
  have HB_3 : Hid (Below w.heap.size w wk4) := Lib.hid (HB_2.out.trans (hb.mono HB_2.out.size))
  have B_3 := Lib.hid (B_2.out.on hb)
  have V_3 := Lib.hid (V_2.out.on hb)
  clear HB_2 B_2 V_2 hb
  go_upto_if 47 with (fail)
  go_cut [2] from 48 to 66 (fun s0 wx => s0 = .bool false ∧ Hid (Below wk4.heap.size wk4 wx))
  case first =>
    rcases HG0.out with ⟨rfl, e12⟩ | ⟨rfl, _, _, _, N, rfl, hr, hN1, hN2, hk0, e12⟩
    · obtain rfl : g1 = 0 := by rw [HEG1.out, e12]
      obtain rfl : g2 = 1 := by rw [HEG2.out, e12]
      clear e12
      go_wp2_with fail
      go_meet
      exact ⟨rfl, Lib.hid (Below.refl _ _)⟩
    · obtain rfl : g1 = graceN r N k := by rw [HEG1.out, e12]
      obtain rfl : g2 = 0 := by rw [HEG2.out, e12]
      have HRG := Lib.hid (fun W : World => rgrace_any r N k W hr hN1 hN2 hk0)
      generalize graceN r N k = gg at *
      clear e12 hr hN1 hN2 hk0 h1 h2 h3 HEG1 HEG2 HG0
      obtain ⟨x0, x1, x2, x3, x4, x5, x6, x7, x8, x9⟩ := B_3.out
      go_wp2_with fail
      refine (HRG.out _).mono ?_
      rintro e wv4 ⟨rfl, hb⟩
      clear x0 x1 x2 x3 x4 x5 x6 x7 x8 x9
      have HB_4 : Hid (Below wk4.heap.size wk4 wv4) := Lib.hid hb
      have B_4 := Lib.hid (B_3.out.on hb)
      have V_4 := Lib.hid (V_3.out.on hb)
      clear B_3 V_3 hb
      go_wp2_with fail
      go_meet
      exact ⟨rfl, HB_4⟩
  obtain ⟨rfl, HCU⟩ := hcut
  obtain ⟨wk6, ewc⟩ : ∃ x, x = wc := ⟨_, rfl⟩
  subst ewc
  have hb := HCU.out
  clear HCU
  have HB_4 : Hid (Below w.heap.size w wk6) := Lib.hid (HB_3.out.trans (hb.mono HB_3.out.size))
  have B_4 := Lib.hid (B_3.out.on hb)
  have V_4 := Lib.hid (V_3.out.on hb)
  clear HB_3 B_3 V_3 hb
  clear HG0 HEG1 HEG2 HBAD h3 H3
  go_upto_region 9 with (fail)
  go_cut [82] from 67 to 82 (fun s0 wx => s0 = .bool false ∧ Hid (Below wk6.heap.size wk6 wx))
  case first =>
    obtain ⟨x0, x1, x2, x3, x4, x5, x6, x7, x8, x9⟩ := B_4.out
    have X1 := fun p : Regrown => cell_regrown x1 p.d p.os
    have X2 := fun p : Regrown => cell_regrown x2 p.d p.os
    have X3 := fun p : Regrown => cell_regrown x3 p.d p.os
    have C1 := Lib.hid (fun p : Regrown => HMR.out (grow (redrawn wk6 p.d) p.os))
    have C2 := Lib.hid (fun p : Regrown => HRU.out (grow (redrawn wk6 p.d) p.os))
    have C3 := Lib.hid (fun p : Regrown => HK.out v (grow (redrawn wk6 p.d) p.os) (V_4.out.on (below_regrown wk6 p.d p.os)))
    have C4 := Lib.hid (fun p : Regrown => HM.out v (grow (redrawn wk6 p.d) p.os) (V_4.out.on (below_regrown wk6 p.d p.os)))
    clear HMR HRU HK HM
    have ok0 : okE false = 1 := rfl
    have ok1 : okE true = 0 := rfl
    rw [ok0] at C3
    rcases J with _ | _
    · rw [ok0] at C1
      refine q_enter (by kernel_rfl) (by kernel_rfl) ?_
      iterate 16 (refine q_step ?_; intro K hK; go_simp; first | (refine hK _ ?_; clear hK K) | (refine ⟨_, fun p => Calls.regrown_of (by with_reducible exact C1.out p), hK _ ?_⟩; clear hK K) | (refine ⟨_, fun p => Calls.regrown_of (by with_reducible exact C2.out p), hK _ ?_⟩; clear hK K) | (refine ⟨_, fun p => Calls.regrown_of (by with_reducible exact C3.out p), hK _ ?_⟩; clear hK K) | (refine ⟨_, fun p => Calls.regrown_of (by with_reducible exact C4.out p), hK _ ?_⟩; clear hK K))
      refine q_nil ?_
      intro wz hbz
      have HBZ := Lib.hid hbz
      clear hbz
      go_wp2_with fail
      go_meet
      exact ⟨rfl, HBZ⟩
    · rw [ok1] at C1
      refine q_enter (by kernel_rfl) (by kernel_rfl) ?_
      iterate 16 (refine q_step ?_; intro K hK; go_simp; first | (refine hK _ ?_; clear hK K) | (refine ⟨_, fun p => Calls.regrown_of (by with_reducible exact C1.out p), hK _ ?_⟩; clear hK K) | (refine ⟨_, fun p => Calls.regrown_of (by with_reducible exact C2.out p), hK _ ?_⟩; clear hK K) | (refine ⟨_, fun p => Calls.regrown_of (by with_reducible exact C3.out p), hK _ ?_⟩; clear hK K) | (refine ⟨_, fun p => Calls.regrown_of (by with_reducible exact C4.out p), hK _ ?_⟩; clear hK K))
      refine q_nil ?_
      intro wz hbz
      have HBZ := Lib.hid hbz
      clear hbz
      go_wp2_with fail
      go_meet
      exact ⟨rfl, HBZ⟩
  obtain ⟨rfl, HCU⟩ := hcut
  obtain ⟨wk7, ewc⟩ : ∃ x, x = wc := ⟨_, rfl⟩
  subst ewc
  have hb := HCU.out
  clear HCU
  have HB_5 : Hid (Below w.heap.size w wk7) := Lib.hid (HB_4.out.trans (hb.mono HB_4.out.size))
  have B_5 := Lib.hid (B_4.out.on hb)
  have V_5 := Lib.hid (V_4.out.on hb)
  clear HB_4 B_4 V_4 hb
  clear HMR HK
  obtain ⟨x0, x1, x2, x3, x4, x5, x6, x7, x8, x9⟩ := B_5.out
  go_wp2_with fail
  refine (HR1.out _ _ V_5.out).mono ?_
  rintro e wv7 ⟨va, rfl, ha, hb⟩
  clear x0 x1 x2 x3 x4 x5 x6 x7 x8 x9
  have HB_6 : Hid (Below w.heap.size w wv7) := Lib.hid (HB_5.out.trans (hb.mono HB_5.out.size))
  have B_6 := Lib.hid (B_5.out.on hb)
  have V_6 := Lib.hid (V_5.out.on hb)
  clear HB_5 B_5 V_5 hb
  have VA_6 := Lib.hid ha
  clear ha
  obtain ⟨x0, x1, x2, x3, x4, x5, x6, x7, x8, x9⟩ := B_6.out
  go_wp2_with fail
  refine (HC1.out _ _ V_6.out).mono ?_
  rintro e wv8 ⟨vb, rfl, ha, hb⟩
  clear x0 x1 x2 x3 x4 x5 x6 x7 x8 x9
  have HB_7 : Hid (Below w.heap.size w wv8) := Lib.hid (HB_6.out.trans (hb.mono HB_6.out.size))
  have B_7 := Lib.hid (B_6.out.on hb)
  have V_7 := Lib.hid (V_6.out.on hb)
  have VA_7 := Lib.hid (VA_6.out.on hb)
  clear HB_6 B_6 V_6 VA_6 hb
  have VB_7 := Lib.hid ha
  clear ha
  obtain ⟨x0, x1, x2, x3, x4, x5, x6, x7, x8, x9⟩ := B_7.out
  go_wp2_with fail
  refine (HP1.out _ _ V_7.out).mono ?_
  rintro e wv9 ⟨vx, vy, rfl, ha, hy, hb⟩
  clear x0 x1 x2 x3 x4 x5 x6 x7 x8 x9
  have HB_8 : Hid (Below w.heap.size w wv9) := Lib.hid (HB_7.out.trans (hb.mono HB_7.out.size))
  have B_8 := Lib.hid (B_7.out.on hb)
  have V_8 := Lib.hid (V_7.out.on hb)
  have VA_8 := Lib.hid (VA_7.out.on hb)
  have VB_8 := Lib.hid (VB_7.out.on hb)
  clear HB_7 B_7 V_7 VA_7 VB_7 hb
  have VX_8 := Lib.hid ha
  clear ha
  have VY_8 := Lib.hid hy
  clear hy
  clear HR1 HC1 HP1
  go_upto_region 14 with (fail)
  go_cut [132] from 117 to 132 (fun s0 wx => s0 = .bool false ∧ Hid (Below wv9.heap.size wv9 wx))
  case first =>
    go_wp2_with fail
    refine (HE1.out _ _ _ V_8.out VA_8.out).mono ?_
    rintro e wv10 ⟨rfl, hb⟩
    have HB_9 : Hid (Below wv9.heap.size wv9 wv10) := Lib.hid hb
    have B_9 := Lib.hid (B_8.out.on hb)
    have V_9 := Lib.hid (V_8.out.on hb)
    have VA_9 := Lib.hid (VA_8.out.on hb)
    have VB_9 := Lib.hid (VB_8.out.on hb)
    have VX_9 := Lib.hid (VX_8.out.on hb)
    have VY_9 := Lib.hid (VY_8.out.on hb)
    clear B_8 V_8 VA_8 VB_8 VX_8 VY_8 hb
    go_wp2_with fail
    refine (HE2.out _ _ _ V_9.out VA_9.out).mono ?_
    rintro e wv11 ⟨rfl, hb⟩
    have HB_10 : Hid (Below wv9.heap.size wv9 wv11) := Lib.hid (HB_9.out.trans (hb.mono HB_9.out.size))
    have B_10 := Lib.hid (B_9.out.on hb)
    have V_10 := Lib.hid (V_9.out.on hb)
    have VA_10 := Lib.hid (VA_9.out.on hb)
    have VB_10 := Lib.hid (VB_9.out.on hb)
    have VX_10 := Lib.hid (VX_9.out.on hb)
    have VY_10 := Lib.hid (VY_9.out.on hb)
    clear HB_9 B_9 V_9 VA_9 VB_9 VX_9 VY_9 hb
    have b1 : (S1 != S1) = false := by cases S1 <;> rfl
    have b2 : (S2 != S2) = false := by cases S2 <;> rfl
    go_wp2_with fail
    refine (HE3.out _ _ _ V_10.out VB_10.out).mono ?_
    rintro e wv12 ⟨rfl, hb⟩
    have HB_11 : Hid (Below wv9.heap.size wv9 wv12) := Lib.hid (HB_10.out.trans (hb.mono HB_10.out.size))
    have B_11 := Lib.hid (B_10.out.on hb)
    have V_11 := Lib.hid (V_10.out.on hb)
    have VA_11 := Lib.hid (VA_10.out.on hb)
    have VB_11 := Lib.hid (VB_10.out.on hb)
    have VX_11 := Lib.hid (VX_10.out.on hb)
    have VY_11 := Lib.hid (VY_10.out.on hb)
    clear HB_10 B_10 V_10 VA_10 VB_10 VX_10 VY_10 hb
    go_wp2_with fail
    refine (HE4.out _ _ _ V_11.out VB_11.out).mono ?_
    rintro e wv13 ⟨rfl, hb⟩
    have HB_12 : Hid (Below wv9.heap.size wv9 wv13) := Lib.hid (HB_11.out.trans (hb.mono HB_11.out.size))
    have B_12 := Lib.hid (B_11.out.on hb)
    have V_12 := Lib.hid (V_11.out.on hb)
    have VA_12 := Lib.hid (VA_11.out.on hb)
    have VB_12 := Lib.hid (VB_11.out.on hb)
    have VX_12 := Lib.hid (VX_11.out.on hb)
    have VY_12 := Lib.hid (VY_11.out.on hb)
    clear HB_11 B_11 V_11 VA_11 VB_11 VX_11 VY_11 hb
    go_wp2_with fail
    go_meet
    exact ⟨rfl, HB_12⟩
  obtain ⟨rfl, HCU⟩ := hcut
  obtain ⟨wk15, ewc⟩ : ∃ x, x = wc := ⟨_, rfl⟩
  subst ewc
  have hb := HCU.out
  clear HCU
  have HB_9 : Hid (Below w.heap.size w wk15) := Lib.hid (HB_8.out.trans (hb.mono HB_8.out.size))
  have B_9 := Lib.hid (B_8.out.on hb)
  have V_9 := Lib.hid (V_8.out.on hb)
  have VA_9 := Lib.hid (VA_8.out.on hb)
  have VB_9 := Lib.hid (VB_8.out.on hb)
  have VX_9 := Lib.hid (VX_8.out.on hb)
  have VY_9 := Lib.hid (VY_8.out.on hb)
  clear HB_8 B_8 V_8 VA_8 VB_8 VX_8 VY_8 hb
  clear HE1 HE2 HE3 HE4
  go_wp2_with fail
  refine (HM.out _ _ V_9.out).mono ?_
  rintro e wv15 ⟨rfl, hb⟩
  have HB_10 : Hid (Below w.heap.size w wv15) := Lib.hid (HB_9.out.trans (hb.mono HB_9.out.size))
  have B_10 := Lib.hid (B_9.out.on hb)
  have V_10 := Lib.hid (V_9.out.on hb)
  have VA_10 := Lib.hid (VA_9.out.on hb)
  have VB_10 := Lib.hid (VB_9.out.on hb)
  have VX_10 := Lib.hid (VX_9.out.on hb)
  have VY_10 := Lib.hid (VY_9.out.on hb)
  clear HB_9 B_9 V_9 VA_9 VB_9 VX_9 VY_9 hb
  clear HM
  have HSS := Lib.hid (fun (v v' : Value) (W : World) (h : Va W v R) (h' : Va W v' R) => l_rsame v v' R R W HSM.out h h' true (by simp))
  have eRA := HRA.out
  have eCA := HCA.out
  have ePA := HPA.out
  have ePB := HPB.out
  have eea := HEA.out
  have eec := HEC.out
  have eep := HEP.out
  subst eea
  subst eec
  subst eep
  have VA' : Hid (Va wv15 va R) := Lib.hid (by have := VA_10.out; rwa [eRA] at this)
  have VB' : Hid (Va wv15 vb R) := Lib.hid (by have := VB_10.out; rwa [eCA] at this)
  clear VA_10 VB_10
  obtain ⟨Ax, cx, rfl⟩ := VX_10.out.len
  obtain ⟨Ay, cy, rfl⟩ := VY_10.out.len
  rw [ePA, ePB]
  clear VX_10 VY_10
  clear eRA eCA ePA ePB HRA HCA HPA HPB HEA HEC HEP
  have ln0 : (([] : List Dt).length : Int) = 0 := rfl
  go_wp2_with fail
  refine (HSS.out _ _ _ VA'.out V_10.out).mono ?_
  rintro e wv16 ⟨rfl, hb⟩
  have HB_11 : Hid (Below w.heap.size w wv16) := Lib.hid (HB_10.out.trans (hb.mono HB_10.out.size))
  have B_11 := Lib.hid (B_10.out.on hb)
  have V_11 := Lib.hid (V_10.out.on hb)
  have VA_11 := Lib.hid (VA'.out.on hb)
  have VB_11 := Lib.hid (VB'.out.on hb)
  clear HB_10 B_10 V_10 VA' VB' hb
  go_wp2_with fail
  refine (HSS.out _ _ _ VB_11.out V_11.out).mono ?_
  rintro e wv17 ⟨rfl, hb⟩
  have HB_12 : Hid (Below w.heap.size w wv17) := Lib.hid (HB_11.out.trans (hb.mono HB_11.out.size))
  have B_12 := Lib.hid (B_11.out.on hb)
  have V_12 := Lib.hid (V_11.out.on hb)
  have VA_12 := Lib.hid (VA_11.out.on hb)
  have VB_12 := Lib.hid (VB_11.out.on hb)
  clear HB_11 B_11 V_11 VA_11 VB_11 hb
  go_wp2_with fail
  refine (awake_any _).mono ?_
  rintro e wE ⟨rfl, hbE⟩
  have HE : Hid (Below w.heap.size w wE) := Lib.hid (HB_12.out.trans (hbE.mono HB_12.out.size))
  clear hbE
  go_wp2_with fail
  go_ret
  exact ⟨rfl, HE.out⟩
end Go.Proofs.Ytknpbbplolncpaa.lawTells
