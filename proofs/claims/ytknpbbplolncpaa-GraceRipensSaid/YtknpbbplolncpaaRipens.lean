/-
  GraceRipens: what is ripe is ripe later, too; behind the greatest grace all is ripe, ahead of the least one nothing is: the law returns true for every input.
-/
import Derived.Test.YtknpbbplolncpaaAsk
namespace Go.Proofs.Ytknpbbplolncpaa.lawRipens
open Go.Sort Go.ChangeShapes Go.WideShapes Go.ChangeAt Go.RowKit Go.Proofs.Ytknpbbplolncpaa.Pure

/-- What is told of the graces of rules. -/
theorem graces {r : Ru} {n : Nat} (hr : Rl r) (h1 : 1 ≤ n) (h2 : n ≤ 64) : (1 ≤ graceN r n r.al ∧ graceN r n r.al ≤ graceN r n 0 ∧ graceN r n 0 ≤ 140000) ∧ ∀ c, 0 ≤ c → graceN r n r.al ≤ graceN r n c ∧ graceN r n c ≤ graceN r n 0 := by
  have hs := least_one hr h1 h2
  have hb := least_bounds hr h1 h2
  unfold Rl at hr
  obtain ⟨_, ⟨h3, h4⟩, h5, h6⟩ := hr
  have e : graceN r n r.al = leastN r n := gr_all (Int.le_refl _)
  have hle : graceN r n 0 ≤ leastN r n * r.mo := gr_none_le h3 hs h5
  have hm : leastN r n * r.mo ≤ 7000 * 20 := Int.mul_le_mul hb.2 h4 (by omega) (by omega)
  have hge : ∀ c, 0 ≤ c → leastN r n ≤ graceN r n c ∧ graceN r n c ≤ graceN r n 0 := fun c hc => by
    refine ⟨?_, gr_falls h3 hs h5 hc⟩
    have e2 : graceN r n (max c r.al) = leastN r n := gr_all (by omega)
    exact Int.le_trans (Int.le_of_eq e2.symm) (gr_falls h3 hs h5 (show c ≤ max c r.al by omega))
  rw [e]
  exact ⟨⟨hs, (hge 0 (by omega)).1, by omega⟩, hge⟩
theorem grace_ok {r : Ru} {n : Nat} {c : Int} (hr : Rl r) (h1 : 1 ≤ n) (h2 : n ≤ 64) (hc : 0 ≤ c) : graceA r n c = (graceN r n c, 0) := by
  have hr := (rulesB_iff r).2 hr
  unfold graceA
  rw [if_pos (by simp only [mayG, hr, Bool.true_and, Bool.and_eq_true, decide_eq_true_iff]; omega)]
  simp
theorem ripe_ok' {R : List Dt} {r : Ru} {n : Nat} {now : Int} (hd : mayD R = true) (hr : Rl r) (h1 : 1 ≤ n) (h2 : n ≤ 64) (ht : 0 ≤ now ∧ now ≤ 1099511627776) : ripeA R r n now = (R.filter (ripeB r n now), R.filter (fun x => !ripeB r n now x), 0) := by
  have hr := (rulesB_iff r).2 hr
  unfold ripeA
  rw [if_pos (by simp only [mayP, mayG, hr, hd, (tickB_iff now).2 ht, Bool.true_and, Bool.and_true, Bool.and_eq_true, decide_eq_true_iff]; omega)]
  simp
theorem filter_both (R : List Dt) (p : Dt → Bool) : (R.filter p).length + (R.filter (fun x => !p x)).length = R.length := by
  induction R with
  | nil => rfl
  | cons x l ih =>
    rcases h : p x with _ | _ <;> simp [h] <;> omega
theorem filter_more (R : List Dt) (p q : Dt → Bool) (h : ∀ x ∈ R, p x = true → q x = true) : (R.filter p).length ≤ (R.filter q).length := by
  rw [← List.countP_eq_length_filter, ← List.countP_eq_length_filter]
  exact List.countP_mono_left h
/-- What is told of those that are ripe, and of the others. -/
theorem ripes {R : List Dt} {r : Ru} {n : Nat} {now : Int} (hd : mayD R = true) (hr : Rl r) (h1 : 1 ≤ n) (h2 : n ≤ 64) :
    (∀ x ∈ R.filter (ripeB r n now), (0 ≤ x.t ∧ x.t ≤ 1099511627776) ∧ x.t + graceN r n r.al ≤ now) ∧ (∀ x ∈ R.filter (fun x => !ripeB r n now x), (0 ≤ x.t ∧ x.t ≤ 1099511627776) ∧ now < x.t + graceN r n 0) := by
  have hg := (graces hr h1 h2).2
  have hok : ∀ x ∈ R, (0 ≤ x.t ∧ x.t ≤ 1099511627776) ∧ 0 < x.b.length := fun x hx => by
    obtain ⟨j, hj, rfl⟩ := List.getElem_of_mem hx
    have := ((mayD_iff R).1 hd).1 j hj
    rw [dt_lt R hj] at this
    exact ⟨this.1, List.length_pos_iff.2 this.2.1⟩
  refine ⟨fun x hx => ?_, fun x hx => ?_⟩
  · obtain ⟨hm, hp⟩ := List.mem_filter.1 hx
    obtain ⟨ht, hl⟩ := hok x hm
    have := (hg ((x.b.length : Int) - 1) (by omega)).1
    have hp' : x.t + graceN r n ((x.b.length : Int) - 1) ≤ now := by simpa [ripeB] using hp
    exact ⟨ht, by omega⟩
  · obtain ⟨hm, hp⟩ := List.mem_filter.1 hx
    obtain ⟨ht, hl⟩ := hok x hm
    have := (hg ((x.b.length : Int) - 1) (by omega)).2
    have hp' : now < x.t + graceN r n ((x.b.length : Int) - 1) := by simpa [ripeB] using hp
    exact ⟨ht, by omega⟩

set_option maxRecDepth 100000 in
set_option maxHeartbeats 4000000 in
theorem walk (A : Option Addr) (c : Nat) (q : List Db) (r : Ru) (n k who b inc now : Int) (m : Nat) (w : World) (q1 : q.length ≤ c) (q2 : c ≤ maxLen) (q3 : Ds w w.heap.size A q) (hm : m ≤ 255) : Calls Try.prog 6 #[.agg #[.slice A q.length c, .int .i64 r.mn, .int .i64 r.mo, .int .i64 r.al, .int .i64 n, .int .i64 k, .int .i64 who, .int .i64 b, .int .u64 inc, .int .i64 now], .int .u8 (m : Int)] w fun e w' => e = .returned (.bool true) ∧ Below w.heap.size w w' := by
  have HBa : Hid (Below w.heap.size w (w.alloc (.cells #[.slice A q.length c, .int .i64 r.mn, .int .i64 r.mo, .int .i64 r.al, .int .i64 n, .int .i64 k, .int .i64 who, .int .i64 b, .int .u64 inc, .int .i64 now] 27))) := Lib.hid ((Below.refl _ w).alloc (Nat.le_refl _) _)
  have BK0 : Hid (Bk (w.alloc (.cells #[.slice A q.length c, .int .i64 r.mn, .int .i64 r.mo, .int .i64 r.al, .int .i64 n, .int .i64 k, .int .i64 who, .int .i64 b, .int .u64 inc, .int .i64 now] 27)) w.heap.size A q.length c r n k who b inc now) := Lib.hid (Bk.new w A q.length c r n k who b inc now _)
  have HF := Lib.hid (l_few A c w.heap.size q (w.alloc (.cells #[.slice A q.length c, .int .i64 r.mn, .int .i64 r.mo, .int .i64 r.al, .int .i64 n, .int .i64 k, .int .i64 who, .int .i64 b, .int .u64 inc, .int .i64 now] 27)) (q3.on HBa.out (Nat.le_refl _)) HBa.out.size q1 q2)
  have HSM := Lib.hid (fewd_sm (q.map Db.ct))
  generalize fewD (q.map Db.ct) = R at *
  clear q1 q2 q3
  go_enter Try.func6, Try.ntmps6
  go_upto_region 1 with (fail)
  generalize (w.alloc (.cells #[.slice A q.length c, .int .i64 r.mn, .int .i64 r.mo, .int .i64 r.al, .int .i64 n, .int .i64 k, .int .i64 who, .int .i64 b, .int .u64 inc, .int .i64 now] 27)) = w1 at *
  obtain ⟨x0, x1, x2, x3, x4, x5, x6, x7, x8, x9⟩ := BK0.out
  go_wp2_with fail
  refine HF.out.mono ?_
  rintro e w2 ⟨v, rfl, hv, hb⟩
  clear x0 x1 x2 x3 x4 x5 x6 x7 x8 x9 HF
  have HB_1 : Hid (Below w.heap.size w w2) := Lib.hid (HBa.out.trans (hb.mono HBa.out.size))
  have B_1 := Lib.hid (BK0.out.on hb)
  clear HBa BK0 hb
  have HV := Lib.hid hv
  clear hv
  obtain ⟨x0, x1, x2, x3, x4, x5, x6, x7, x8, x9⟩ := B_1.out
  obtain ⟨L, hL⟩ : ∃ L, mayD R = L := ⟨_, rfl⟩
  have HM := Lib.hid (fun (W : World) (h : Va W v R) => l_rmay v R W HSM.out h L hL)
  go_wp2_with fail
  refine (HM.out _ HV.out).mono ?_
  rintro e w3 ⟨rfl, hb⟩
  clear x0 x1 x2 x3 x4 x5 x6 x7 x8 x9
  clear HM
  have HB_2 : Hid (Below w.heap.size w w3) := Lib.hid (HB_1.out.trans (hb.mono HB_1.out.size))
  have B_2 := Lib.hid (B_1.out.on hb)
  have V_2 := Lib.hid (HV.out.on hb)
  clear HB_1 B_1 HV hb
  obtain ⟨x0, x1, x2, x3, x4, x5, x6, x7, x8, x9⟩ := B_2.out
  rcases L with _ | _
  · go_wp2_with fail
    refine (awake_any _).mono ?_
    rintro e wE ⟨rfl, hbE⟩
    have HE : Hid (Below w.heap.size w wE) := Lib.hid (HB_2.out.trans (hbE.mono HB_2.out.size))
    clear hbE
    go_wp2_with fail
    go_ret
    exact ⟨rfl, HE.out⟩
  obtain ⟨J, hJ⟩ : ∃ J, rulesB r = J := ⟨_, rfl⟩
  have HR := Lib.hid (fun W : World => rules_any r W)
  rw [hJ] at HR
  go_wp2_with fail
  refine (HR.out _).mono ?_
  rintro e w4 ⟨rfl, hb⟩
  clear x0 x1 x2 x3 x4 x5 x6 x7 x8 x9
  clear HR
  have HB_3 : Hid (Below w.heap.size w w4) := Lib.hid (HB_2.out.trans (hb.mono HB_2.out.size))
  have B_3 := Lib.hid (B_2.out.on hb)
  have V_3 := Lib.hid (V_2.out.on hb)
  clear HB_2 B_2 V_2 hb
  obtain ⟨x0, x1, x2, x3, x4, x5, x6, x7, x8, x9⟩ := B_3.out
  rcases J with _ | _
  · go_wp2_with fail
    refine (awake_any _).mono ?_
    rintro e wE ⟨rfl, hbE⟩
    have HE : Hid (Below w.heap.size w wE) := Lib.hid (HB_3.out.trans (hbE.mono HB_3.out.size))
    clear hbE
    go_wp2_with fail
    go_ret
    exact ⟨rfl, HE.out⟩
  by_cases c1 : n < 1
  · have dc1 : decide (n < 1) = true := by simp; omega
    go_wp2_with fail
    refine (awake_any _).mono ?_
    rintro e wE ⟨rfl, hbE⟩
    have HE : Hid (Below w.heap.size w wE) := Lib.hid (HB_3.out.trans (hbE.mono HB_3.out.size))
    clear hbE
    go_wp2_with fail
    go_ret
    exact ⟨rfl, HE.out⟩
  have dc1 : decide (n < 1) = false := by simp; omega
  by_cases c2 : 64 < n
  · have dc2 : decide (64 < n) = true := by simp; omega
    go_wp2_with fail
    refine (awake_any _).mono ?_
    rintro e wE ⟨rfl, hbE⟩
    have HE : Hid (Below w.heap.size w wE) := Lib.hid (HB_3.out.trans (hbE.mono HB_3.out.size))
    clear hbE
    go_wp2_with fail
    go_ret
    exact ⟨rfl, HE.out⟩
  have dc2 : decide (64 < n) = false := by simp; omega
  by_cases c3 : now < 0
  · have dc3 : decide (now < 0) = true := by simp; omega
    go_wp2_with fail
    refine (awake_any _).mono ?_
    rintro e wE ⟨rfl, hbE⟩
    have HE : Hid (Below w.heap.size w wE) := Lib.hid (HB_3.out.trans (hbE.mono HB_3.out.size))
    clear hbE
    go_wp2_with fail
    go_ret
    exact ⟨rfl, HE.out⟩
  have dc3 : decide (now < 0) = false := by simp; omega
  by_cases c4 : 549755813888 < now
  · have dc4 : decide (549755813888 < now) = true := by simp; omega
    go_wp2_with fail
    refine (awake_any _).mono ?_
    rintro e wE ⟨rfl, hbE⟩
    have HE : Hid (Below w.heap.size w wE) := Lib.hid (HB_3.out.trans (hbE.mono HB_3.out.size))
    clear hbE
    go_wp2_with fail
    go_ret
    exact ⟨rfl, HE.out⟩
  have dc4 : decide (549755813888 < now) = false := by simp; omega
  obtain ⟨N, rfl⟩ := Int.eq_ofNat_of_zero_le (show 0 ≤ n by omega)
  have hr := (rulesB_iff r).1 hJ
  have hN1 : 1 ≤ N := by omega
  have hN2 : N ≤ 64 := by omega
  obtain ⟨⟨s1, s2, s3⟩, _⟩ := graces hr hN1 hN2
  obtain ⟨p1, p2⟩ := ripes (now := now) hL hr hN1 hN2
  obtain ⟨T, hT⟩ : ∃ T : Int, T = now + (m : Int) := ⟨_, rfl⟩
  have HWT : IntKind.i64.wrap (now + (m : Int)) = T := by rw [← hT, IntWalk.i64_in _ (by omega)]
  have E1 := ripe_ok' (now := now) hL hr hN1 hN2 (by omega)
  have E2 := ripe_ok' (now := T) hL hr hN1 hN2 (by omega)
  have hfb := filter_both R (ripeB r N now)
  have hfm : (R.filter (ripeB r N now)).length ≤ (R.filter (ripeB r N T)).length := filter_more R _ _ (fun x _ hp => by simp only [ripeB, decide_eq_true_iff] at hp ⊢; omega)
  have HP1 : Hid (∀ W : World, Va W v R → Calls Try.prog 18 #[v, .agg #[.int .i64 r.mn, .int .i64 r.mo, .int .i64 r.al], .int .i64 (N : Nat), .int .i64 now] W (GivesR2 W (R.filter (ripeB r N now)) (R.filter (fun x => !ripeB r N now x)) 0)) := Lib.hid (fun W h => by have := l_ripe v R W r (N : Nat) now HSM.out h; rwa [E1] at this)
  have HP2 : Hid (∀ W : World, Va W v R → Calls Try.prog 18 #[v, .agg #[.int .i64 r.mn, .int .i64 r.mo, .int .i64 r.al], .int .i64 (N : Nat), .int .i64 T] W (GivesR2 W (R.filter (ripeB r N T)) (R.filter (fun x => !ripeB r N T x)) 0)) := Lib.hid (fun W h => by have := l_ripe v R W r (N : Nat) T HSM.out h; rwa [E2] at this)
  have HG1 : Hid (∀ W : World, Calls Try.prog 10 #[.agg #[.int .i64 r.mn, .int .i64 r.mo, .int .i64 r.al], .int .i64 (N : Nat), .int .i64 r.al] W fun e w' => e = .returned (.tuple #[.int .i64 (graceN r N r.al), .int .i64 0]) ∧ Below W.heap.size W w') := Lib.hid (fun W => by have := grace_any r (N : Nat) r.al W; rwa [grace_ok hr hN1 hN2 hr.2.2.1] at this)
  have HG2 : Hid (∀ W : World, Calls Try.prog 10 #[.agg #[.int .i64 r.mn, .int .i64 r.mo, .int .i64 r.al], .int .i64 (N : Nat), .int .i64 0] W fun e w' => e = .returned (.tuple #[.int .i64 (graceN r N 0), .int .i64 0]) ∧ Below W.heap.size W w') := Lib.hid (fun W => by have := grace_any r (N : Nat) 0 W; rwa [grace_ok hr hN1 hN2 (by omega)] at this)
  have hlR := HSM.out.1
  generalize hR1 : R.filter (ripeB r N now) = R1 at *
  generalize hR2 : R.filter (fun x => !ripeB r N now x) = R2 at *
  generalize hR3 : R.filter (ripeB r N T) = R3 at *
  generalize R.filter (fun x => !ripeB r N T x) = R4 at *
  generalize graceN r N r.al = gs at *
  generalize graceN r N 0 = gm at *
  have HQ1 := Lib.hid p1
  have HQ2 := Lib.hid p2
  have HT := Lib.hid hT
  clear hL hJ hr hT E1 E2 hR1 hR2 hR3 p1 p2
  go_wp2_with fail
  refine (HP1.out _ V_3.out).mono ?_
  rintro e w5 ⟨va, vr, rfl, ha, hr, hb⟩
  clear x0 x1 x2 x3 x4 x5 x6 x7 x8 x9
  clear HP1
  have HB_4 : Hid (Below w.heap.size w w5) := Lib.hid (HB_3.out.trans (hb.mono HB_3.out.size))
  have B_4 := Lib.hid (B_3.out.on hb)
  have V_4 := Lib.hid (V_3.out.on hb)
  clear HB_3 B_3 V_3 hb
  have HA1 := Lib.hid ha
  have HR1 := Lib.hid hr
  clear ha hr
  obtain ⟨x0, x1, x2, x3, x4, x5, x6, x7, x8, x9⟩ := B_4.out
  go_wp2_with fail
  refine (HP2.out _ V_4.out).mono ?_
  rintro e w6 ⟨vb, vc, rfl, ha, _, hb⟩
  clear x0 x1 x2 x3 x4 x5 x6 x7 x8 x9
  clear HP2
  have HB_5 : Hid (Below w.heap.size w w6) := Lib.hid (HB_4.out.trans (hb.mono HB_4.out.size))
  have B_5 := Lib.hid (B_4.out.on hb)
  have V_5 := Lib.hid (V_4.out.on hb)
  have A1_5 := Lib.hid (HA1.out.on hb)
  have R1_5 := Lib.hid (HR1.out.on hb)
  clear HB_4 B_4 V_4 HA1 HR1 hb
  have HA2 := Lib.hid ha
  clear ha
  obtain ⟨Aa, ca, ya, rfl, _, _, da, ea⟩ := A1_5.out
  obtain ⟨Ar, cr, yr, rfl, _, _, dr, er⟩ := R1_5.out
  obtain ⟨Ab, cb, rfl⟩ := HA2.out.len
  obtain ⟨Av, cv, rfl⟩ := V_5.out.len
  have la : ya.length = R1.length := by rw [← ea, List.length_map]
  have lr : yr.length = R2.length := by rw [← er, List.length_map]
  have HQa : Hid (∀ j, j < ya.length → (0 ≤ (db ya j).t ∧ (db ya j).t ≤ 1099511627776) ∧ (db ya j).t + gs ≤ now) := Lib.hid (fun j hj => HQ1.out (db ya j).ct (by rw [← ea]; exact List.mem_map_of_mem (db_mem ya hj)))
  have HQr : Hid (∀ j, j < yr.length → (0 ≤ (db yr j).t ∧ (db yr j).t ≤ 1099511627776) ∧ now < (db yr j).t + gm) := Lib.hid (fun j hj => HQ2.out (db yr j).ct (by rw [← er]; exact List.mem_map_of_mem (db_mem yr hj)))
  have HDa := Lib.hid da
  have HDr := Lib.hid dr
  clear da dr ea er HQ1 HQ2
  clear A1_5
  clear R1_5
  clear HA2
  clear V_5
  rw [← la, ← lr] at hfb
  rw [← la] at hfm
  generalize hna : ya.length = na at *
  generalize hnr : yr.length = nr at *
  have HLa := Lib.hid hna
  have HLr := Lib.hid hnr
  clear hna hnr
  generalize hlr : R.length = nl at *
  generalize R3.length = nb at *
  clear la lr
  have hwl : IntKind.i64.wrap ((na : Int) + (nr : Int)) = (nl : Int) := by rw [IntWalk.i64_in _ (by omega)]; omega
  have hnb : decide ((nb : Int) < (na : Int)) = false := by simp; omega
  have hnb2 : decide (nb < na) = false := by simp; omega
  clear hlr
  obtain ⟨x0, x1, x2, x3, x4, x5, x6, x7, x8, x9⟩ := B_5.out
  go_wp2_with fail
  refine (HG1.out _).mono ?_
  rintro e w7 ⟨rfl, hb⟩
  clear x0 x1 x2 x3 x4 x5 x6 x7 x8 x9
  clear HG1
  have HB_6 : Hid (Below w.heap.size w w7) := Lib.hid (HB_5.out.trans (hb.mono HB_5.out.size))
  have B_6 := Lib.hid (B_5.out.on hb)
  clear HB_5 B_5
  have HDa_6 := Lib.hid (HDa.out.onW hb)
  have HDr_6 := Lib.hid (HDr.out.onW hb)
  clear HDa HDr hb
  obtain ⟨x0, x1, x2, x3, x4, x5, x6, x7, x8, x9⟩ := B_6.out
  go_wp2_with fail
  refine (HG2.out _).mono ?_
  rintro e w8 ⟨rfl, hb⟩
  clear x0 x1 x2 x3 x4 x5 x6 x7 x8 x9
  clear HG2
  have HB_7 : Hid (Below w.heap.size w w8) := Lib.hid (HB_6.out.trans (hb.mono HB_6.out.size))
  have B_7 := Lib.hid (B_6.out.on hb)
  clear HB_6 B_6
  have HDa_7 := Lib.hid (HDa_6.out.onW hb)
  have HDr_7 := Lib.hid (HDr_6.out.onW hb)
  clear HDa_6 HDr_6 hb
  obtain ⟨x0, x1, x2, x3, x4, x5, x6, x7, x8, x9⟩ := B_7.out
  go_wp2_with fail
  clear x0 x1 x2 x3 x4 x5 x6 x7 x8 x9
  go_loopw [16] (fun i wr => ∃ j : Nat, i = .int .i64 j ∧ j ≤ na ∧ Hid (Below w8.heap.size w8 wr)) (fun i _ => na - (intOf i).toNat)
  case atStart => exact ⟨0, rfl, Nat.zero_le _, Lib.hid (Below.refl _ _)⟩
  case round =>
    obtain ⟨wq, ewq⟩ : ∃ wq, wq = wr := ⟨_, rfl⟩
    subst ewq
    obtain ⟨j, rfl, hj, HBq⟩ := hrel
    obtain ⟨x0, x1, x2, x3, x4, x5, x6, x7, x8, x9⟩ := B_7.out.on HBq.out
    by_cases hlt : j < na
    · obtain ⟨ad, rfl, _, h1, _⟩ := (HDa_7.out.on HBq.out (Nat.le_refl _)) j (by have := HLa.out; omega)
      obtain ⟨a0, a1, a2, a3⟩ := h1.flat
      have hq := HQa.out j (by omega)
      have hlt' : (j : Int) < (na : Int) := by omega
      have hj0 : (0 : Int) ≤ (j : Int) := by omega
      clear h1
      generalize db ya j = x at *
      obtain ⟨su, hsu⟩ : ∃ su : Int, su = x.t + gs := ⟨_, rfl⟩
      have hws : IntKind.i64.wrap (x.t + gs) = su := by rw [← hsu, IntWalk.i64_in _ (by omega)]
      have hd : decide (now < su) = false := by simp; omega
      have A2' : ∀ p : Regrown, (grow (redrawn wq p.d) p.os).cell? ⟨(ad.add (j * 4)).block, (ad.add (j * 4)).off + 2, none⟩ = some (.int .i64 x.t) := fun p => cell_regrown a2 p.d p.os
      have X9 : ∀ p : Regrown, (grow (redrawn wq p.d) p.os).cell? ⟨w.heap.size, 9, none⟩ = some (.int .i64 now) := fun p => cell_regrown x9 p.d p.os
      clear hq hsu
      clear x0 x1 x2 x3 x4 x5 x6 x7 x8 x9
      go_upto_region 15 with (fail)
      refine q_enter (by kernel_rfl) (by kernel_rfl) ?_
      iterate 10 (refine q_step ?_; intro K hK; go_simp; refine hK _ ?_; clear hK K)
      refine q_nil ?_
      intro wz hbz
      have HBz : Hid (Below w8.heap.size w8 wz) := Lib.hid (HBq.out.trans (hbz.mono HBq.out.size))
      clear hbz A2' X9 a0 a1 a2 a3
      go_wp2_with fail
      go_roundw
      case rel => exact ⟨j + 1, by go_num, by omega, HBz⟩
      case measure => simp [intOf]; omega
    · obtain rfl : j = na := by omega
      have he : decide ((j : Int) < (j : Int)) = false := by simp
      clear hlt
      clear x0 x1 x2 x3 x4 x5 x6 x7 x8 x9
      have hbq := HBq.out
      have HB_8 : Hid (Below w.heap.size w wq) := Lib.hid (HB_7.out.trans (hbq.mono HB_7.out.size))
      have B_8 := Lib.hid (B_7.out.on hbq)
      clear HB_7 B_7
      have HDr_8 := Lib.hid (HDr_7.out.onW hbq)
      clear hbq HBq HDa_7 HDr_7
      go_wp2_with fail
      go_loopw [17] (fun i wr => ∃ j : Nat, i = .int .i64 j ∧ j ≤ nr ∧ Hid (Below wq.heap.size wq wr)) (fun i _ => nr - (intOf i).toNat)
      case atStart => exact ⟨0, rfl, Nat.zero_le _, Lib.hid (Below.refl _ _)⟩
      case round =>
        obtain ⟨wp, ewq⟩ : ∃ wq, wq = wr := ⟨_, rfl⟩
        subst ewq
        obtain ⟨j, rfl, hj, HBq⟩ := hrel
        obtain ⟨x0, x1, x2, x3, x4, x5, x6, x7, x8, x9⟩ := B_8.out.on HBq.out
        by_cases hlt : j < nr
        · obtain ⟨ad, rfl, _, h1, _⟩ := (HDr_8.out.on HBq.out (Nat.le_refl _)) j (by have := HLr.out; omega)
          obtain ⟨a0, a1, a2, a3⟩ := h1.flat
          have hq := HQr.out j (by omega)
          have hlt' : (j : Int) < (nr : Int) := by omega
          have hj0 : (0 : Int) ≤ (j : Int) := by omega
          clear h1
          generalize db yr j = x at *
          obtain ⟨su, hsu⟩ : ∃ su : Int, su = x.t + gm := ⟨_, rfl⟩
          have hws : IntKind.i64.wrap (x.t + gm) = su := by rw [← hsu, IntWalk.i64_in _ (by omega)]
          have hd : decide (su ≤ now) = false := by simp; omega
          have A2' : ∀ p : Regrown, (grow (redrawn wp p.d) p.os).cell? ⟨(ad.add (j * 4)).block, (ad.add (j * 4)).off + 2, none⟩ = some (.int .i64 x.t) := fun p => cell_regrown a2 p.d p.os
          have X9 : ∀ p : Regrown, (grow (redrawn wp p.d) p.os).cell? ⟨w.heap.size, 9, none⟩ = some (.int .i64 now) := fun p => cell_regrown x9 p.d p.os
          clear hq hsu
          clear x0 x1 x2 x3 x4 x5 x6 x7 x8 x9
          go_upto_region 20 with (fail)
          refine q_enter (by kernel_rfl) (by kernel_rfl) ?_
          iterate 10 (refine q_step ?_; intro K hK; go_simp; refine hK _ ?_; clear hK K)
          refine q_nil ?_
          intro wz hbz
          have HBz : Hid (Below wq.heap.size wq wz) := Lib.hid (HBq.out.trans (hbz.mono HBq.out.size))
          clear hbz A2' X9 a0 a1 a2 a3
          go_wp2_with fail
          go_roundw
          case rel => exact ⟨j + 1, by go_num, by omega, HBz⟩
          case measure => simp [intOf]; omega
        · obtain rfl : j = nr := by omega
          have he : decide ((j : Int) < (j : Int)) = false := by simp
          clear hlt
          clear x0 x1 x2 x3 x4 x5 x6 x7 x8 x9
          have HBy : Hid (Below w.heap.size w wp) := Lib.hid (HB_8.out.trans (HBq.out.mono HB_8.out.size))
          go_wp2_with fail
          refine (awake_any _).mono ?_
          rintro e wE ⟨rfl, hbE⟩
          have HE : Hid (Below w.heap.size w wE) := Lib.hid (HBy.out.trans (hbE.mono HBy.out.size))
          clear hbE
          go_wp2_with fail
          go_ret
          exact ⟨rfl, HE.out⟩

/-! ### the statement -/
theorem parOk : ∀ t ∈ (#[27, 5] : Array TypeId).toList, Try.prog.readableRec t = true ∧ t < Try.prog.types.size := by
  have hall : ([27, 5].all fun t => Try.prog.readableRec t && decide (t < Try.prog.types.size)) = true := by kernel_rfl
  intro t ht
  simpa using List.all_eq_true.1 hall t ht

set_option maxRecDepth 100000 in
/-- What the walk gives, for every argument. -/
theorem contract (H : Type) (enc : TypeId × Value → H) (W : World) (base : Nat) (args : Array Value) (ds gs : List (DataW H)) (before : List MemPlace)
    (hval : ∀ (j : Nat) t v, Try.f6.params[j]? = some t → args[j]? = some v → Value.okWide Try.prog W .any base t v)
    (hW : DataW.Whole enc Try.prog Try.f6.params.toList Rows.graceRipensSpec.vars false W args.toList ds gs before) :
    Calls Try.prog 6 args W fun e W' => ∃ v, e = .returned v ∧ Rows.graceRipensSpec.post enc Try.prog Try.f6 false true false false W args v W' := by
  have hW' := hW
  obtain ⟨p, q, hA0, hV, rfl, hfz, hnd⟩ := hW
  have hA : DataW.TrodAll enc Try.prog W 0 (fun _ => true) true Try.f6.params.toList args.toList ds p := hA0
  rw [Try.params6] at hA hval
  obtain ⟨v0, vs0, d0, ds0, p0, q0, hargs, rfl, rfl, h0, r0⟩ := trodAll_cons hA
  obtain ⟨v1, vs1, d1, ds1, p1, q1, rfl, rfl, rfl, h1, r1⟩ := trodAll_cons r0
  obtain ⟨rfl, rfl, rfl⟩ := trodAll_nil r1
  obtain rfl : args = #[v0, v1] := by cases args; simp_all
  obtain ⟨rfl, rfl⟩ := trodVars_none hV
  obtain ⟨y, rfl, hy⟩ := open_ask (hval 0 27 v0 rfl rfl) h0
  obtain ⟨m, rfl, hm⟩ := open_u8 (hval 1 5 v1 rfl rfl) h1
  clear hA0
  refine (walk y.A y.c y.q y.r y.n y.k y.who y.by_ y.inc y.now m W hy.q1 hy.q2 hy.q3 hm).mono fun e W' ⟨he, hb⟩ => ?_
  subst he
  exact ⟨_, rfl, law_post rfl (by rw [Try.params6]; exact parOk) rfl hW' rfl rfl rfl hb⟩

set_option maxRecDepth 100000 in
theorem lifted (os : Os) (started : os.Started) (H : Type) (enc : TypeId × Value → H) :
    ReturnsInHanded {} Try.checked os 6 .any (Rows.graceRipensSpec.pre6 enc Try.prog Try.f6 Rows.graceRipensRow.domain false) (Rows.graceRipensSpec.post enc Try.prog Try.f6 false true false false) := by
  refine returnsInHanded_of_change (C := Try.checked) own started (by kernel_rfl) Try.func6
    (ChangeSpec.witness6 (enc := enc) (C := Try.checked) false ⟨#[], #[.agg #[.slice none 0 0, .int .i64 0, .int .i64 0, .int .i64 0, .int .i64 0, .int .i64 0, .int .i64 0, .int .i64 0, .int .u64 0, .int .i64 0], .int .u8 0], []⟩ 8 (by kernel_rfl) (by kernel_rfl) (by kernel_rfl) (by kernel_rfl)) ?_
  intro W base args ds gs before hval hW _ _
  exact contract H enc W base args ds gs before hval hW

/-- THE STATEMENT. -/
theorem said : Rows.GraceRipensSaid :=
  OpenClaim.holds_of_wide 6 Try.f6 rfl rfl rfl rfl rfl rfl rfl ⟨rfl, rfl, rfl, rfl, rfl⟩ rfl rfl rfl rfl rfl (by kernel_rfl) Try.func6 (by kernel_rfl)
    (of_decide_eq_true (by kernel_rfl)) (by unfold Func.isWrapper; first | (rw [if_pos (by decide +kernel)]; kernel_rfl) | (rw [if_neg (by decide +kernel)]; exact ⟨rfl, rfl⟩))
    (fun os started H enc _ => lifted os started H enc)
end Go.Proofs.Ytknpbbplolncpaa.lawRipens
