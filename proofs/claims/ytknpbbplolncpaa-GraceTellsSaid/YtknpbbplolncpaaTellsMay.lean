/-
  The walk of GraceTells where doubts may be.
-/
import Derived.Test.YtknpbbplolncpaaTellsKit
namespace Go.Proofs.Ytknpbbplolncpaa.lawTells
open Go.Sort Go.ChangeShapes Go.WideShapes Go.ChangeAt Go.RowKit Go.Proofs.Ytknpbbplolncpaa.Pure

set_option maxRecDepth 100000 in
set_option maxHeartbeats 16000000 in
theorem walk_may (A : Option Addr) (c : Nat) (q : List Db) (r : Ru) (n k who b inc now : Int) (w : World) (q1 : q.length ≤ c) (q2 : c ≤ maxLen) (q3 : Ds w w.heap.size A q) (hmd : mayD (fewD (q.map Db.ct)) = true) : Calls Try.prog 3 #[.agg #[.slice A q.length c, .int .i64 r.mn, .int .i64 r.mo, .int .i64 r.al, .int .i64 n, .int .i64 k, .int .i64 who, .int .i64 b, .int .u64 inc, .int .i64 now]] w fun e w' => e = .returned (.bool true) ∧ Below w.heap.size w w' := by
  have HBa : Hid (Below w.heap.size w (w.alloc (.cells #[.slice A q.length c, .int .i64 r.mn, .int .i64 r.mo, .int .i64 r.al, .int .i64 n, .int .i64 k, .int .i64 who, .int .i64 b, .int .u64 inc, .int .i64 now] 27))) := Lib.hid ((Below.refl _ w).alloc (Nat.le_refl _) _)
  have BK0 : Hid (Bk (w.alloc (.cells #[.slice A q.length c, .int .i64 r.mn, .int .i64 r.mo, .int .i64 r.al, .int .i64 n, .int .i64 k, .int .i64 who, .int .i64 b, .int .u64 inc, .int .i64 now] 27)) w.heap.size A q.length c r n k who b inc now) := Lib.hid (Bk.new w A q.length c r n k who b inc now _)
  have HF := Lib.hid (l_few A c w.heap.size q (w.alloc (.cells #[.slice A q.length c, .int .i64 r.mn, .int .i64 r.mo, .int .i64 r.al, .int .i64 n, .int .i64 k, .int .i64 who, .int .i64 b, .int .u64 inc, .int .i64 now] 27)) (q3.on HBa.out (Nat.le_refl _)) HBa.out.size q1 q2)
  have HSM := Lib.hid (fewd_sm (q.map Db.ct))
  have HRL : Hid ((fewD (q.map Db.ct)).length ≤ 400) := Lib.hid (by have := (few_sm (q.map Db.ct)).1; omega)
  have HMD := Lib.hid hmd
  generalize fewD (q.map Db.ct) = R at *
  obtain ⟨J, hJ⟩ : ∃ J, rulesB r = J := ⟨_, rfl⟩
  obtain ⟨T1, h1⟩ : ∃ T, decide (1 ≤ n) = T := ⟨_, rfl⟩
  obtain ⟨T2, h2⟩ : ∃ T, decide (n ≤ 64) = T := ⟨_, rfl⟩
  obtain ⟨T3, h3⟩ : ∃ T, decide (k < 0) = T := ⟨_, rfl⟩
  obtain ⟨NB, hNB⟩ : ∃ T, (T1 && T2) = T := ⟨_, rfl⟩
  obtain ⟨bad, hbad⟩ : ∃ T, (!J || (!(T1 && T2) || T3)) = T := ⟨_, rfl⟩
  have HG0 := Lib.hid (rel_grace hJ h1 h2 h3 hbad)
  rw [hNB] at hbad
  have HNB := Lib.hid hNB
  have HBAD := Lib.hid hbad
  have HGG := Lib.hid (fun W : World => grace_any r n k W)
  have HRU := Lib.hid (fun W : World => rules_any r W)
  have HMR := Lib.hid (fun W : World => mayR_any r W)
  rw [hJ] at HRU HMR
  have HR1 := Lib.hid (fun (v : Value) (W : World) (h : Va W v R) => l_raise v R W who inc b now HSM.out h)
  have HC1 := Lib.hid (fun (v : Value) (W : World) (h : Va W v R) => l_clear v R W who inc HSM.out h)
  have HP1 := Lib.hid (fun (v : Value) (W : World) (h : Va W v R) => l_ripe v R W r n now HSM.out h)
  have HSA := Lib.hid (HSM.out.raise who inc b now)
  have HSC := Lib.hid (HSM.out.clear who inc)
  obtain ⟨T4, h4⟩ : ∃ T, decide (who < 0) = T := ⟨_, rfl⟩
  obtain ⟨T5, h5⟩ : ∃ T, decide (63 < who) = T := ⟨_, rfl⟩
  obtain ⟨T6, h6⟩ : ∃ T, decide (b < 0) = T := ⟨_, rfl⟩
  obtain ⟨T7, h7⟩ : ∃ T, decide (63 < b) = T := ⟨_, rfl⟩
  obtain ⟨M, hM⟩ : ∃ M, tickB now = M := ⟨_, rfl⟩
  have HMO := Lib.hid (fun W : World => moment_any now W)
  rw [hM] at HMO
  obtain ⟨bad2, hb2⟩ : ∃ T, (T4 || (T5 || (T6 || (T7 || !M)))) = T := ⟨_, rfl⟩
  obtain ⟨bad3, hb3⟩ : ∃ T, (!J || (!(T1 && T2) || !M)) = T := ⟨_, rfl⟩
  have HRR := Lib.hid (rel_raise (inc := inc) hmd h4 h5 h6 h7 hM hb2)
  have HPP := Lib.hid (rel_ripe hmd hJ h1 h2 hM hb3)
  rw [hNB] at hb3
  have HB2 := Lib.hid hb2
  have HB3 := Lib.hid hb3
  have H4 := Lib.hid h4
  have H5 := Lib.hid h5
  have H6 := Lib.hid h6
  have H7 := Lib.hid h7
  clear h4 h5 h6 h7 hM hb2 hb3
  have HCA : Hid ((clearA R who inc).1 = clearD R who inc) := Lib.hid (by unfold clearA; rw [if_pos hmd])
  have HEC : Hid ((clearA R who inc).2 = 0) := Lib.hid (by unfold clearA; rw [if_pos hmd])
  have H3 := Lib.hid h3
  obtain ⟨g1, hg1⟩ : ∃ g, g = (graceA r n k).1 := ⟨_, rfl⟩
  obtain ⟨g2, hg2⟩ : ∃ g, g = (graceA r n k).2 := ⟨_, rfl⟩
  rw [← hg1, ← hg2] at HGG
  have HEG1 := Lib.hid hg1
  have HEG2 := Lib.hid hg2
  clear hg1 hg2
  obtain ⟨RA, hRA⟩ : ∃ x, (raiseA R who inc b now).1 = x := ⟨_, rfl⟩
  obtain ⟨ea, hea⟩ : ∃ x, (raiseA R who inc b now).2 = x := ⟨_, rfl⟩
  have HRA := Lib.hid hRA
  have HEA := Lib.hid hea
  rw [hRA, hea] at HR1
  rw [hRA] at HSA
  generalize hCA : (clearA R who inc).1 = CA at *
  generalize hec : (clearA R who inc).2 = ec at *
  obtain ⟨PA, hPA⟩ : ∃ x, (ripeA R r n now).1 = x := ⟨_, rfl⟩
  obtain ⟨PB, hPB⟩ : ∃ x, (ripeA R r n now).2.1 = x := ⟨_, rfl⟩
  obtain ⟨ep, hep⟩ : ∃ x, (ripeA R r n now).2.2 = x := ⟨_, rfl⟩
  have HPA := Lib.hid hPA
  have HPB := Lib.hid hPB
  have HEP := Lib.hid hep
  rw [hPA, hPB, hep] at HP1
  have HK := Lib.hid (fun (v : Value) (W : World) (h : Va W v R) => l_check v R W HSM.out h true hmd)
  have HM := Lib.hid (fun (v : Value) (W : World) (h : Va W v R) => l_rmay v R W HSM.out h true hmd)
  obtain ⟨S1, hS1⟩ : ∃ S, decide (R = RA) = S := ⟨_, rfl⟩
  obtain ⟨S2, hS2⟩ : ∃ S, decide (R = CA) = S := ⟨_, rfl⟩
  have HE1 := Lib.hid (fun (v v' : Value) (W : World) (h : Va W v R) (h' : Va W v' RA) => l_same v v' R RA W HSM.out h h' S1 hS1)
  have HE2 := Lib.hid (fun (v v' : Value) (W : World) (h : Va W v R) (h' : Va W v' RA) => l_rsame v v' R RA W HSM.out h h' S1 hS1)
  have HE3 := Lib.hid (fun (v v' : Value) (W : World) (h : Va W v R) (h' : Va W v' CA) => l_same v v' R CA W HSM.out h h' S2 hS2)
  have HE4 := Lib.hid (fun (v v' : Value) (W : World) (h : Va W v R) (h' : Va W v' CA) => l_rsame v v' R CA W HSM.out h h' S2 hS2)
  clear q1 q2 q3 hmd hJ h3 hNB hbad hS1 hS2 hRA hea hCA hec hPA hPB hep
  go_enter Try.func3, Try.ntmps3
  go_upto_region 1 with (fail)
  generalize (w.alloc (.cells #[.slice A q.length c, .int .i64 r.mn, .int .i64 r.mo, .int .i64 r.al, .int .i64 n, .int .i64 k, .int .i64 who, .int .i64 b, .int .u64 inc, .int .i64 now] 27)) = w1 at *
  obtain ⟨x0, x1, x2, x3, x4, x5, x6, x7, x8, x9⟩ := BK0.out
  go_wp2_with fail
  refine HF.out.mono ?_
  rintro e w2 ⟨v, rfl, hv, hb⟩
  clear x0 x1 x2 x3 x4 x5 x6 x7 x8 x9 HF
  have HB_1 : Hid (Below w.heap.size w w2) := Lib.hid (HBa.out.trans (hb.mono HBa.out.size))
  have B_1 := Lib.hid (BK0.out.on hb)
  clear HBa BK0 hb
  have HV := Lib.hid hv
  clear hv
  obtain ⟨x0, x1, x2, x3, x4, x5, x6, x7, x8, x9⟩ := B_1.out
  go_wp2_with fail
  refine (HGG.out _).mono ?_
  rintro e wv18 ⟨rfl, hb⟩
  clear x0 x1 x2 x3 x4 x5 x6 x7 x8 x9
  have HB_2 : Hid (Below w.heap.size w wv18) := Lib.hid (HB_1.out.trans (hb.mono HB_1.out.size))
  have B_2 := Lib.hid (B_1.out.on hb)
  have V_2 := Lib.hid (HV.out.on hb)
  clear HB_1 B_1 HV hb
  clear HGG
  go_upto_region 3 with (fail)
  go_cut [6] from 27 to 34 (fun s0 wx => s0 = .bool NB ∧ wv18 = wx)
  case first =>
    have hnb := HNB.out
    clear HNB
    rcases T1 with _ | _
    · obtain rfl : NB = false := by rw [← hnb]; rfl
      obtain ⟨x0, x1, x2, x3, x4, x5, x6, x7, x8, x9⟩ := B_2.out
      go_wp2_with fail
      go_meet
      exact ⟨rfl, rfl⟩
    · obtain rfl : NB = T2 := by rw [← hnb]; rfl
      obtain ⟨x0, x1, x2, x3, x4, x5, x6, x7, x8, x9⟩ := B_2.out
      go_wp2_with fail
      go_meet
      exact ⟨rfl, rfl⟩
  obtain ⟨rfl, rfl⟩ := hcut
  have h3 : decide (k < 0) = T3 := H3.out
  go_upto_region 4 with (fail)
  go_cut [47] from 35 to 47 (fun s0 wx => s0 = .bool bad ∧ Hid (Below wv18.heap.size wv18 wx))
  case first =>
    have hbd := HBAD.out
    clear HBAD
    obtain ⟨x0, x1, x2, x3, x4, x5, x6, x7, x8, x9⟩ := B_2.out
    go_wp2_with fail
    refine (HRU.out _).mono ?_
    rintro e wv20 ⟨rfl, hb⟩
    clear x0 x1 x2 x3 x4 x5 x6 x7 x8 x9
    have HB_3 : Hid (Below wv18.heap.size wv18 wv20) := Lib.hid hb
    have B_3 := Lib.hid (B_2.out.on hb)
    have V_3 := Lib.hid (V_2.out.on hb)
    clear B_2 V_2 hb
    rcases J with _ | _
    · obtain rfl : bad = true := by rw [← hbd]; rfl
      go_wp2_with fail
      go_meet
      exact ⟨rfl, HB_3⟩
    · rcases NB with _ | _
      · obtain rfl : bad = true := by rw [← hbd]; rfl
        go_wp2_with fail
        go_meet
        exact ⟨rfl, HB_3⟩
      · obtain rfl : bad = T3 := by rw [← hbd]; rfl
        obtain ⟨x0, x1, x2, x3, x4, x5, x6, x7, x8, x9⟩ := B_3.out
        go_wp2_with fail
        go_meet
        exact ⟨rfl, HB_3⟩
  obtain ⟨rfl, HCU⟩ := hcut
  obtain ⟨wk22, ewc⟩ : ∃ x, x = wc := ⟨_, rfl⟩
  subst ewc
  have hb := HCU.out
  clear HCU
  have HB_3 : Hid (Below w.heap.size w wk22) := Lib.hid (HB_2.out.trans (hb.mono HB_2.out.size))
  have B_3 := Lib.hid (B_2.out.on hb)
  have V_3 := Lib.hid (V_2.out.on hb)
  clear HB_2 B_2 V_2 hb
  go_upto_if 47 with (fail)
  go_cut [2] from 48 to 66 (fun s0 wx => s0 = .bool false ∧ Hid (Below wk22.heap.size wk22 wx))
  case first =>
    rcases HG0.out with ⟨rfl, e12⟩ | ⟨rfl, _, _, _, N, rfl, hr, hN1, hN2, hk0, e12⟩
    · obtain rfl : g1 = 0 := by rw [HEG1.out, e12]
      obtain rfl : g2 = 1 := by rw [HEG2.out, e12]
      clear e12
      go_wp2_with fail
      go_meet
      exact ⟨rfl, Lib.hid (Below.refl _ _)⟩
    · obtain rfl : g1 = graceN r N k := by rw [HEG1.out, e12]
      obtain rfl : g2 = 0 := by rw [HEG2.out, e12]
      have HRG := Lib.hid (fun W : World => rgrace_any r N k W hr hN1 hN2 hk0)
      generalize graceN r N k = gg at *
      clear e12 hr hN1 hN2 hk0 h1 h2 h3 HEG1 HEG2 HG0
      obtain ⟨x0, x1, x2, x3, x4, x5, x6, x7, x8, x9⟩ := B_3.out
      go_wp2_with fail
      refine (HRG.out _).mono ?_
      rintro e wv22 ⟨rfl, hb⟩
      clear x0 x1 x2 x3 x4 x5 x6 x7 x8 x9
      have HB_4 : Hid (Below wk22.heap.size wk22 wv22) := Lib.hid hb
      have B_4 := Lib.hid (B_3.out.on hb)
      have V_4 := Lib.hid (V_3.out.on hb)
      clear B_3 V_3 hb
      go_wp2_with fail
      go_meet
      exact ⟨rfl, HB_4⟩
  obtain ⟨rfl, HCU⟩ := hcut
  obtain ⟨wk24, ewc⟩ : ∃ x, x = wc := ⟨_, rfl⟩
  subst ewc
  have hb := HCU.out
  clear HCU
  have HB_4 : Hid (Below w.heap.size w wk24) := Lib.hid (HB_3.out.trans (hb.mono HB_3.out.size))
  have B_4 := Lib.hid (B_3.out.on hb)
  have V_4 := Lib.hid (V_3.out.on hb)
  clear HB_3 B_3 V_3 hb
  clear HG0 HEG1 HEG2 HBAD h3 H3
  go_upto_region 9 with (fail)
  go_cut [82] from 67 to 82 (fun s0 wx => s0 = .bool false ∧ Hid (Below wk24.heap.size wk24 wx))
  case first =>
    obtain ⟨x0, x1, x2, x3, x4, x5, x6, x7, x8, x9⟩ := B_4.out
    have X1 := fun p : Regrown => cell_regrown x1 p.d p.os
    have X2 := fun p : Regrown => cell_regrown x2 p.d p.os
    have X3 := fun p : Regrown => cell_regrown x3 p.d p.os
    have C1 := Lib.hid (fun p : Regrown => HMR.out (grow (redrawn wk24 p.d) p.os))
    have C2 := Lib.hid (fun p : Regrown => HRU.out (grow (redrawn wk24 p.d) p.os))
    have C3 := Lib.hid (fun p : Regrown => HK.out v (grow (redrawn wk24 p.d) p.os) (V_4.out.on (below_regrown wk24 p.d p.os)))
    have C4 := Lib.hid (fun p : Regrown => HM.out v (grow (redrawn wk24 p.d) p.os) (V_4.out.on (below_regrown wk24 p.d p.os)))
    clear HMR HRU HK HM
    have ok0 : okE false = 1 := rfl
    have ok1 : okE true = 0 := rfl
    rw [ok1] at C3
    rcases J with _ | _
    · rw [ok0] at C1
      refine q_enter (by kernel_rfl) (by kernel_rfl) ?_
      iterate 16 (refine q_step ?_; intro K hK; go_simp; first | (refine hK _ ?_; clear hK K) | (refine ⟨_, fun p => Calls.regrown_of (by with_reducible exact C1.out p), hK _ ?_⟩; clear hK K) | (refine ⟨_, fun p => Calls.regrown_of (by with_reducible exact C2.out p), hK _ ?_⟩; clear hK K) | (refine ⟨_, fun p => Calls.regrown_of (by with_reducible exact C3.out p), hK _ ?_⟩; clear hK K) | (refine ⟨_, fun p => Calls.regrown_of (by with_reducible exact C4.out p), hK _ ?_⟩; clear hK K))
      refine q_nil ?_
      intro wz hbz
      have HBZ := Lib.hid hbz
      clear hbz
      go_wp2_with fail
      go_meet
      exact ⟨rfl, HBZ⟩
    · rw [ok1] at C1
      refine q_enter (by kernel_rfl) (by kernel_rfl) ?_
      iterate 16 (refine q_step ?_; intro K hK; go_simp; first | (refine hK _ ?_; clear hK K) | (refine ⟨_, fun p => Calls.regrown_of (by with_reducible exact C1.out p), hK _ ?_⟩; clear hK K) | (refine ⟨_, fun p => Calls.regrown_of (by with_reducible exact C2.out p), hK _ ?_⟩; clear hK K) | (refine ⟨_, fun p => Calls.regrown_of (by with_reducible exact C3.out p), hK _ ?_⟩; clear hK K) | (refine ⟨_, fun p => Calls.regrown_of (by with_reducible exact C4.out p), hK _ ?_⟩; clear hK K))
      refine q_nil ?_
      intro wz hbz
      have HBZ := Lib.hid hbz
      clear hbz
      go_wp2_with fail
      go_meet
      exact ⟨rfl, HBZ⟩
  obtain ⟨rfl, HCU⟩ := hcut
  obtain ⟨wk25, ewc⟩ : ∃ x, x = wc := ⟨_, rfl⟩
  subst ewc
  have hb := HCU.out
  clear HCU
  have HB_5 : Hid (Below w.heap.size w wk25) := Lib.hid (HB_4.out.trans (hb.mono HB_4.out.size))
  have B_5 := Lib.hid (B_4.out.on hb)
  have V_5 := Lib.hid (V_4.out.on hb)
  clear HB_4 B_4 V_4 hb
  clear HMR HK
  obtain ⟨x0, x1, x2, x3, x4, x5, x6, x7, x8, x9⟩ := B_5.out
  go_wp2_with fail
  refine (HR1.out _ _ V_5.out).mono ?_
  rintro e wv25 ⟨va, rfl, ha, hb⟩
  clear x0 x1 x2 x3 x4 x5 x6 x7 x8 x9
  have HB_6 : Hid (Below w.heap.size w wv25) := Lib.hid (HB_5.out.trans (hb.mono HB_5.out.size))
  have B_6 := Lib.hid (B_5.out.on hb)
  have V_6 := Lib.hid (V_5.out.on hb)
  clear HB_5 B_5 V_5 hb
  have VA_6 := Lib.hid ha
  clear ha
  obtain ⟨x0, x1, x2, x3, x4, x5, x6, x7, x8, x9⟩ := B_6.out
  go_wp2_with fail
  refine (HC1.out _ _ V_6.out).mono ?_
  rintro e wv26 ⟨vb, rfl, ha, hb⟩
  clear x0 x1 x2 x3 x4 x5 x6 x7 x8 x9
  have HB_7 : Hid (Below w.heap.size w wv26) := Lib.hid (HB_6.out.trans (hb.mono HB_6.out.size))
  have B_7 := Lib.hid (B_6.out.on hb)
  have V_7 := Lib.hid (V_6.out.on hb)
  have VA_7 := Lib.hid (VA_6.out.on hb)
  clear HB_6 B_6 V_6 VA_6 hb
  have VB_7 := Lib.hid ha
  clear ha
  obtain ⟨x0, x1, x2, x3, x4, x5, x6, x7, x8, x9⟩ := B_7.out
  go_wp2_with fail
  refine (HP1.out _ _ V_7.out).mono ?_
  rintro e wv27 ⟨vx, vy, rfl, ha, hy, hb⟩
  clear x0 x1 x2 x3 x4 x5 x6 x7 x8 x9
  have HB_8 : Hid (Below w.heap.size w wv27) := Lib.hid (HB_7.out.trans (hb.mono HB_7.out.size))
  have B_8 := Lib.hid (B_7.out.on hb)
  have V_8 := Lib.hid (V_7.out.on hb)
  have VA_8 := Lib.hid (VA_7.out.on hb)
  have VB_8 := Lib.hid (VB_7.out.on hb)
  clear HB_7 B_7 V_7 VA_7 VB_7 hb
  have VX_8 := Lib.hid ha
  clear ha
  have VY_8 := Lib.hid hy
  clear hy
  clear HR1 HC1 HP1
  go_upto_region 14 with (fail)
  go_cut [132] from 117 to 132 (fun s0 wx => s0 = .bool false ∧ Hid (Below wv27.heap.size wv27 wx))
  case first =>
    go_wp2_with fail
    refine (HE1.out _ _ _ V_8.out VA_8.out).mono ?_
    rintro e wv28 ⟨rfl, hb⟩
    have HB_9 : Hid (Below wv27.heap.size wv27 wv28) := Lib.hid hb
    have B_9 := Lib.hid (B_8.out.on hb)
    have V_9 := Lib.hid (V_8.out.on hb)
    have VA_9 := Lib.hid (VA_8.out.on hb)
    have VB_9 := Lib.hid (VB_8.out.on hb)
    have VX_9 := Lib.hid (VX_8.out.on hb)
    have VY_9 := Lib.hid (VY_8.out.on hb)
    clear B_8 V_8 VA_8 VB_8 VX_8 VY_8 hb
    go_wp2_with fail
    refine (HE2.out _ _ _ V_9.out VA_9.out).mono ?_
    rintro e wv29 ⟨rfl, hb⟩
    have HB_10 : Hid (Below wv27.heap.size wv27 wv29) := Lib.hid (HB_9.out.trans (hb.mono HB_9.out.size))
    have B_10 := Lib.hid (B_9.out.on hb)
    have V_10 := Lib.hid (V_9.out.on hb)
    have VA_10 := Lib.hid (VA_9.out.on hb)
    have VB_10 := Lib.hid (VB_9.out.on hb)
    have VX_10 := Lib.hid (VX_9.out.on hb)
    have VY_10 := Lib.hid (VY_9.out.on hb)
    clear HB_9 B_9 V_9 VA_9 VB_9 VX_9 VY_9 hb
    have b1 : (S1 != S1) = false := by cases S1 <;> rfl
    have b2 : (S2 != S2) = false := by cases S2 <;> rfl
    go_wp2_with fail
    refine (HE3.out _ _ _ V_10.out VB_10.out).mono ?_
    rintro e wv30 ⟨rfl, hb⟩
    have HB_11 : Hid (Below wv27.heap.size wv27 wv30) := Lib.hid (HB_10.out.trans (hb.mono HB_10.out.size))
    have B_11 := Lib.hid (B_10.out.on hb)
    have V_11 := Lib.hid (V_10.out.on hb)
    have VA_11 := Lib.hid (VA_10.out.on hb)
    have VB_11 := Lib.hid (VB_10.out.on hb)
    have VX_11 := Lib.hid (VX_10.out.on hb)
    have VY_11 := Lib.hid (VY_10.out.on hb)
    clear HB_10 B_10 V_10 VA_10 VB_10 VX_10 VY_10 hb
    go_wp2_with fail
    refine (HE4.out _ _ _ V_11.out VB_11.out).mono ?_
    rintro e wv31 ⟨rfl, hb⟩
    have HB_12 : Hid (Below wv27.heap.size wv27 wv31) := Lib.hid (HB_11.out.trans (hb.mono HB_11.out.size))
    have B_12 := Lib.hid (B_11.out.on hb)
    have V_12 := Lib.hid (V_11.out.on hb)
    have VA_12 := Lib.hid (VA_11.out.on hb)
    have VB_12 := Lib.hid (VB_11.out.on hb)
    have VX_12 := Lib.hid (VX_11.out.on hb)
    have VY_12 := Lib.hid (VY_11.out.on hb)
    clear HB_11 B_11 V_11 VA_11 VB_11 VX_11 VY_11 hb
    go_wp2_with fail
    go_meet
    exact ⟨rfl, HB_12⟩
  obtain ⟨rfl, HCU⟩ := hcut
  obtain ⟨wk33, ewc⟩ : ∃ x, x = wc := ⟨_, rfl⟩
  subst ewc
  have hb := HCU.out
  clear HCU
  have HB_9 : Hid (Below w.heap.size w wk33) := Lib.hid (HB_8.out.trans (hb.mono HB_8.out.size))
  have B_9 := Lib.hid (B_8.out.on hb)
  have V_9 := Lib.hid (V_8.out.on hb)
  have VA_9 := Lib.hid (VA_8.out.on hb)
  have VB_9 := Lib.hid (VB_8.out.on hb)
  have VX_9 := Lib.hid (VX_8.out.on hb)
  have VY_9 := Lib.hid (VY_8.out.on hb)
  clear HB_8 B_8 V_8 VA_8 VB_8 VX_8 VY_8 hb
  clear HE1 HE2 HE3 HE4
  go_wp2_with fail
  refine (HM.out _ _ V_9.out).mono ?_
  rintro e wv33 ⟨rfl, hb⟩
  have HB_10 : Hid (Below w.heap.size w wv33) := Lib.hid (HB_9.out.trans (hb.mono HB_9.out.size))
  have B_10 := Lib.hid (B_9.out.on hb)
  have V_10 := Lib.hid (V_9.out.on hb)
  have VA_10 := Lib.hid (VA_9.out.on hb)
  have VB_10 := Lib.hid (VB_9.out.on hb)
  have VX_10 := Lib.hid (VX_9.out.on hb)
  have VY_10 := Lib.hid (VY_9.out.on hb)
  clear HB_9 B_9 V_9 VA_9 VB_9 VX_9 VY_9 hb
  clear HM
  obtain rfl : ec = 0 := HEC.out
  have HCC := Lib.hid (fun (v : Value) (W : World) (h : Va W v R) => l_rclear v R W who inc HSM.out h)
  have HS3 := Lib.hid (fun (v v' : Value) (W : World) (h : Va W v CA) (h' : Va W v' CA) => l_rsame v v' CA CA W HSC.out h h' true (by simp))
  rw [← HCA.out] at HCC
  obtain ⟨x0, x1, x2, x3, x4, x5, x6, x7, x8, x9⟩ := B_10.out
  go_wp2_with fail
  refine (HCC.out _ _ V_10.out).mono ?_
  rintro e wv34 ⟨vd, rfl, ha, hb⟩
  clear x0 x1 x2 x3 x4 x5 x6 x7 x8 x9
  have HB_11 : Hid (Below w.heap.size w wv34) := Lib.hid (HB_10.out.trans (hb.mono HB_10.out.size))
  have B_11 := Lib.hid (B_10.out.on hb)
  have V_11 := Lib.hid (V_10.out.on hb)
  have VA_11 := Lib.hid (VA_10.out.on hb)
  have VB_11 := Lib.hid (VB_10.out.on hb)
  have VX_11 := Lib.hid (VX_10.out.on hb)
  have VY_11 := Lib.hid (VY_10.out.on hb)
  clear HB_10 B_10 V_10 VA_10 VB_10 VX_10 VY_10 hb
  have VD_11 := Lib.hid ha
  clear ha
  go_wp2_with fail
  refine (HS3.out _ _ _ VB_11.out VD_11.out).mono ?_
  rintro e wv35 ⟨rfl, hb⟩
  have HB_12 : Hid (Below w.heap.size w wv35) := Lib.hid (HB_11.out.trans (hb.mono HB_11.out.size))
  have B_12 := Lib.hid (B_11.out.on hb)
  have V_12 := Lib.hid (V_11.out.on hb)
  have VA_12 := Lib.hid (VA_11.out.on hb)
  have VB_12 := Lib.hid (VB_11.out.on hb)
  have VX_12 := Lib.hid (VX_11.out.on hb)
  have VY_12 := Lib.hid (VY_11.out.on hb)
  have VD_12 := Lib.hid (VD_11.out.on hb)
  clear HB_11 B_11 V_11 VA_11 VB_11 VX_11 VY_11 VD_11 hb
  clear HCC HS3 VB_12 VD_12 HCA HEC
  go_upto_region 20 with (fail)
  go_cut [205] from 182 to 205 (fun s0 wx => s0 = .bool bad2 ∧ Hid (Below wv35.heap.size wv35 wx))
  case first =>
    have hbd := HB2.out
    clear HB2
    have t4 := H4.out
    have t5 := H5.out
    have t6 := H6.out
    have t7 := H7.out
    rcases T4 with _ | _
    · rcases T5 with _ | _
      · rcases T6 with _ | _
        · rcases T7 with _ | _
          · obtain rfl : bad2 = !M := by rw [← hbd]; rfl
            obtain ⟨x0, x1, x2, x3, x4, x5, x6, x7, x8, x9⟩ := B_12.out
            go_wp2_with fail
            refine (HMO.out _).mono ?_
            rintro e w' ⟨rfl, rfl⟩
            go_wp2_with fail
            go_meet
            exact ⟨rfl, Lib.hid (Below.refl _ _)⟩
          · obtain rfl : bad2 = true := by rw [← hbd]; rfl
            obtain ⟨x0, x1, x2, x3, x4, x5, x6, x7, x8, x9⟩ := B_12.out
            go_wp2_with fail
            go_meet
            exact ⟨rfl, Lib.hid (Below.refl _ _)⟩
        · obtain rfl : bad2 = true := by rw [← hbd]; rfl
          obtain ⟨x0, x1, x2, x3, x4, x5, x6, x7, x8, x9⟩ := B_12.out
          go_wp2_with fail
          go_meet
          exact ⟨rfl, Lib.hid (Below.refl _ _)⟩
      · obtain rfl : bad2 = true := by rw [← hbd]; rfl
        obtain ⟨x0, x1, x2, x3, x4, x5, x6, x7, x8, x9⟩ := B_12.out
        go_wp2_with fail
        go_meet
        exact ⟨rfl, Lib.hid (Below.refl _ _)⟩
    · obtain rfl : bad2 = true := by rw [← hbd]; rfl
      obtain ⟨x0, x1, x2, x3, x4, x5, x6, x7, x8, x9⟩ := B_12.out
      go_wp2_with fail
      go_meet
      exact ⟨rfl, Lib.hid (Below.refl _ _)⟩
  obtain ⟨rfl, HCU⟩ := hcut
  obtain ⟨wk37, ewc⟩ : ∃ x, x = wc := ⟨_, rfl⟩
  subst ewc
  have hb := HCU.out
  clear HCU
  have HB_13 : Hid (Below w.heap.size w wk37) := Lib.hid (HB_12.out.trans (hb.mono HB_12.out.size))
  have B_13 := Lib.hid (B_12.out.on hb)
  have V_13 := Lib.hid (V_12.out.on hb)
  have VA_13 := Lib.hid (VA_12.out.on hb)
  have VX_13 := Lib.hid (VX_12.out.on hb)
  have VY_13 := Lib.hid (VY_12.out.on hb)
  clear HB_12 B_12 V_12 VA_12 VX_12 VY_12 hb
  go_upto_if 205 with (fail)
  go_cut [2] from 206 to 230 (fun s0 wx => s0 = .bool false ∧ Hid (Below wk37.heap.size wk37 wx))
  case first =>
    rcases HRR.out with ⟨rfl, eR⟩ | ⟨rfl, hbb, eR⟩
    · have eA : RA = R := by rw [← HRA.out, eR]
      obtain rfl : ea = 1 := by rw [← HEA.out, eR]
      have VA' : Hid (Va wk37 va R) := Lib.hid (by have := VA_13.out; rwa [eA] at this)
      have HSS := Lib.hid (fun (v v' : Value) (W : World) (h : Va W v R) (h' : Va W v' R) => l_rsame v v' R R W HSM.out h h' true (by simp))
      clear eR eA VA_13
      go_wp2_with fail
      refine (HSS.out _ _ _ VA'.out V_13.out).mono ?_
      rintro e wv37 ⟨rfl, hb⟩
      have HB_14 : Hid (Below wk37.heap.size wk37 wv37) := Lib.hid hb
      have B_14 := Lib.hid (B_13.out.on hb)
      have V_14 := Lib.hid (V_13.out.on hb)
      have VA_14 := Lib.hid (VA'.out.on hb)
      have VX_14 := Lib.hid (VX_13.out.on hb)
      have VY_14 := Lib.hid (VY_13.out.on hb)
      clear B_13 V_13 VA' VX_13 VY_13 hb
      go_wp2_with fail
      go_meet
      exact ⟨rfl, HB_14⟩
    · have eA : raiseD R who inc b now = RA := by rw [← HRA.out, eR]
      obtain rfl : ea = 0 := by rw [← HEA.out, eR]
      have HDR := Lib.hid (fun (v : Value) (W : World) (h : Va W v R) => l_rraise v R W who inc b now HSM.out HRL.out HMD.out hbb h)
      rw [eA] at HDR
      have HSS := Lib.hid (fun (v v' : Value) (W : World) (h : Va W v RA) (h' : Va W v' RA) => l_rsame v v' RA RA W HSA.out h h' true (by simp))
      clear eR eA hbb
      obtain ⟨x0, x1, x2, x3, x4, x5, x6, x7, x8, x9⟩ := B_13.out
      go_wp2_with fail
      refine (HDR.out _ _ V_13.out).mono ?_
      rintro e wv38 ⟨vd, rfl, ha, hb⟩
      clear x0 x1 x2 x3 x4 x5 x6 x7 x8 x9
      have HB_14 : Hid (Below wk37.heap.size wk37 wv38) := Lib.hid hb
      have B_14 := Lib.hid (B_13.out.on hb)
      have V_14 := Lib.hid (V_13.out.on hb)
      have VA_14 := Lib.hid (VA_13.out.on hb)
      have VX_14 := Lib.hid (VX_13.out.on hb)
      have VY_14 := Lib.hid (VY_13.out.on hb)
      clear B_13 V_13 VA_13 VX_13 VY_13 hb
      have VD_14 := Lib.hid ha
      clear ha
      go_wp2_with fail
      refine (HSS.out _ _ _ VA_14.out VD_14.out).mono ?_
      rintro e wv39 ⟨rfl, hb⟩
      have HB_15 : Hid (Below wk37.heap.size wk37 wv39) := Lib.hid (HB_14.out.trans (hb.mono HB_14.out.size))
      have B_15 := Lib.hid (B_14.out.on hb)
      have V_15 := Lib.hid (V_14.out.on hb)
      have VA_15 := Lib.hid (VA_14.out.on hb)
      have VX_15 := Lib.hid (VX_14.out.on hb)
      have VY_15 := Lib.hid (VY_14.out.on hb)
      have VD_15 := Lib.hid (VD_14.out.on hb)
      clear HB_14 B_14 V_14 VA_14 VX_14 VY_14 VD_14 hb
      go_wp2_with fail
      go_meet
      exact ⟨rfl, HB_15⟩
  obtain ⟨rfl, HCU⟩ := hcut
  obtain ⟨wk41, ewc⟩ : ∃ x, x = wc := ⟨_, rfl⟩
  subst ewc
  have hb := HCU.out
  clear HCU
  have HB_14 : Hid (Below w.heap.size w wk41) := Lib.hid (HB_13.out.trans (hb.mono HB_13.out.size))
  have B_14 := Lib.hid (B_13.out.on hb)
  have V_14 := Lib.hid (V_13.out.on hb)
  have VA_14 := Lib.hid (VA_13.out.on hb)
  have VX_14 := Lib.hid (VX_13.out.on hb)
  have VY_14 := Lib.hid (VY_13.out.on hb)
  clear HB_13 B_13 V_13 VA_13 VX_13 VY_13 hb
  clear VA_14 HRR HRA HEA HB2 H4 H5 H6 H7
  go_upto_region 25 with (fail)
  go_cut [244] from 231 to 244 (fun s0 wx => s0 = .bool bad3 ∧ Hid (Below wk41.heap.size wk41 wx))
  case first =>
    have hbd := HB3.out
    clear HB3
    obtain ⟨x0, x1, x2, x3, x4, x5, x6, x7, x8, x9⟩ := B_14.out
    go_wp2_with fail
    refine (HRU.out _).mono ?_
    rintro e wv41 ⟨rfl, hb⟩
    clear x0 x1 x2 x3 x4 x5 x6 x7 x8 x9
    have HB_15 : Hid (Below wk41.heap.size wk41 wv41) := Lib.hid hb
    have B_15 := Lib.hid (B_14.out.on hb)
    have V_15 := Lib.hid (V_14.out.on hb)
    have VX_15 := Lib.hid (VX_14.out.on hb)
    have VY_15 := Lib.hid (VY_14.out.on hb)
    clear B_14 V_14 VX_14 VY_14 hb
    rcases J with _ | _
    · obtain rfl : bad3 = true := by rw [← hbd]; rfl
      go_wp2_with fail
      go_meet
      exact ⟨rfl, HB_15⟩
    · rcases NB with _ | _
      · obtain rfl : bad3 = true := by rw [← hbd]; rfl
        go_wp2_with fail
        go_meet
        exact ⟨rfl, HB_15⟩
      · obtain rfl : bad3 = !M := by rw [← hbd]; rfl
        obtain ⟨x0, x1, x2, x3, x4, x5, x6, x7, x8, x9⟩ := B_15.out
        go_wp2_with fail
        refine (HMO.out _).mono ?_
        rintro e w' ⟨rfl, rfl⟩
        go_wp2_with fail
        go_meet
        exact ⟨rfl, HB_15⟩
  obtain ⟨rfl, HCU⟩ := hcut
  obtain ⟨wk43, ewc⟩ : ∃ x, x = wc := ⟨_, rfl⟩
  subst ewc
  have hb := HCU.out
  clear HCU
  have HB_15 : Hid (Below w.heap.size w wk43) := Lib.hid (HB_14.out.trans (hb.mono HB_14.out.size))
  have B_15 := Lib.hid (B_14.out.on hb)
  have V_15 := Lib.hid (V_14.out.on hb)
  have VX_15 := Lib.hid (VX_14.out.on hb)
  have VY_15 := Lib.hid (VY_14.out.on hb)
  clear HB_14 B_14 V_14 VX_14 VY_14 hb
  rcases HPP.out with ⟨rfl, eP⟩ | ⟨rfl, N, rfl, hr, hN1, hN2, eP⟩
  · have ePA : PA = [] := by rw [← HPA.out, eP]
    have ePB : PB = [] := by rw [← HPB.out, eP]
    obtain rfl : ep = 1 := by rw [← HEP.out, eP]
    obtain ⟨Ax, cx, rfl⟩ := VX_15.out.len
    obtain ⟨Ay, cy, rfl⟩ := VY_15.out.len
    rw [ePA, ePB]
    clear VX_15 VY_15 eP ePA ePB
    have ln0 : (([] : List Dt).length : Int) = 0 := rfl
    go_wp2_with fail
    refine (awake_any _).mono ?_
    rintro e wE ⟨rfl, hbE⟩
    have HE : Hid (Below w.heap.size w wE) := Lib.hid (HB_15.out.trans (hbE.mono HB_15.out.size))
    clear hbE
    go_wp2_with fail
    go_ret
    exact ⟨rfl, HE.out⟩
  · have ePA : R.filter (fun x => ripeB r N now x == true) = PA := by rw [← HPA.out, eP, filter_true]
    have ePB : R.filter (fun x => ripeB r N now x == false) = PB := by rw [← HPB.out, eP, filter_false]
    obtain rfl : ep = 0 := by rw [← HEP.out, eP]
    have HQ1 := Lib.hid (fun (v : Value) (W : World) (h : Va W v R) => l_rripe v R W r N now true HSM.out hr hN1 hN2 HMD.out h)
    have HQ2 := Lib.hid (fun (v : Value) (W : World) (h : Va W v R) => l_rripe v R W r N now false HSM.out hr hN1 hN2 HMD.out h)
    rw [ePA] at HQ1
    rw [ePB] at HQ2
    have HS1 := Lib.hid (fun (v v' : Value) (W : World) (h : Va W v PA) (h' : Va W v' PA) => l_rsame v v' PA PA W (by rw [← ePA]; exact HSM.out.filter _) h h' true (by simp))
    have HS2 := Lib.hid (fun (v v' : Value) (W : World) (h : Va W v PB) (h' : Va W v' PB) => l_rsame v v' PB PB W (by rw [← ePB]; exact HSM.out.filter _) h h' true (by simp))
    clear eP ePA ePB hr hN1 hN2 h1 h2
    obtain ⟨x0, x1, x2, x3, x4, x5, x6, x7, x8, x9⟩ := B_15.out
    go_wp2_with fail
    refine (HQ1.out _ _ V_15.out).mono ?_
    rintro e wv43 ⟨vd, rfl, ha, hb⟩
    clear x0 x1 x2 x3 x4 x5 x6 x7 x8 x9
    have HB_16 : Hid (Below w.heap.size w wv43) := Lib.hid (HB_15.out.trans (hb.mono HB_15.out.size))
    have B_16 := Lib.hid (B_15.out.on hb)
    have V_16 := Lib.hid (V_15.out.on hb)
    have VX_16 := Lib.hid (VX_15.out.on hb)
    have VY_16 := Lib.hid (VY_15.out.on hb)
    clear HB_15 B_15 V_15 VX_15 VY_15 hb
    have VD_16 := Lib.hid ha
    clear ha
    go_wp2_with fail
    refine (HS1.out _ _ _ VX_16.out VD_16.out).mono ?_
    rintro e wv44 ⟨rfl, hb⟩
    have HB_17 : Hid (Below w.heap.size w wv44) := Lib.hid (HB_16.out.trans (hb.mono HB_16.out.size))
    have B_17 := Lib.hid (B_16.out.on hb)
    have V_17 := Lib.hid (V_16.out.on hb)
    have VX_17 := Lib.hid (VX_16.out.on hb)
    have VY_17 := Lib.hid (VY_16.out.on hb)
    have VD_17 := Lib.hid (VD_16.out.on hb)
    clear HB_16 B_16 V_16 VX_16 VY_16 VD_16 hb
    obtain ⟨x0, x1, x2, x3, x4, x5, x6, x7, x8, x9⟩ := B_17.out
    go_wp2_with fail
    refine (HQ2.out _ _ V_17.out).mono ?_
    rintro e wv45 ⟨vf, rfl, ha, hb⟩
    clear x0 x1 x2 x3 x4 x5 x6 x7 x8 x9
    have HB_18 : Hid (Below w.heap.size w wv45) := Lib.hid (HB_17.out.trans (hb.mono HB_17.out.size))
    have B_18 := Lib.hid (B_17.out.on hb)
    have V_18 := Lib.hid (V_17.out.on hb)
    have VX_18 := Lib.hid (VX_17.out.on hb)
    have VY_18 := Lib.hid (VY_17.out.on hb)
    have VD_18 := Lib.hid (VD_17.out.on hb)
    clear HB_17 B_17 V_17 VX_17 VY_17 VD_17 hb
    have VF_18 := Lib.hid ha
    clear ha
    go_wp2_with fail
    refine (HS2.out _ _ _ VY_18.out VF_18.out).mono ?_
    rintro e wv46 ⟨rfl, hb⟩
    have HB_19 : Hid (Below w.heap.size w wv46) := Lib.hid (HB_18.out.trans (hb.mono HB_18.out.size))
    have B_19 := Lib.hid (B_18.out.on hb)
    have V_19 := Lib.hid (V_18.out.on hb)
    have VX_19 := Lib.hid (VX_18.out.on hb)
    have VY_19 := Lib.hid (VY_18.out.on hb)
    have VD_19 := Lib.hid (VD_18.out.on hb)
    have VF_19 := Lib.hid (VF_18.out.on hb)
    clear HB_18 B_18 V_18 VX_18 VY_18 VD_18 VF_18 hb
    go_wp2_with fail
    refine (awake_any _).mono ?_
    rintro e wE ⟨rfl, hbE⟩
    have HE : Hid (Below w.heap.size w wE) := Lib.hid (HB_19.out.trans (hbE.mono HB_19.out.size))
    clear hbE
    go_wp2_with fail
    go_ret
    exact ⟨rfl, HE.out⟩
end Go.Proofs.Ytknpbbplolncpaa.lawTells
