/-
  GraceOne: whatever is raised, and cleared, doubts may be; of one node there is one, of the greatest incarnation that was raised since it was cleared: the law returns true for every input.
-/
import Derived.Test.YtknpbbplolncpaaMaps
import Derived.Test.YtknpbbplolncpaaOneMath
namespace Go.Proofs.Ytknpbbplolncpaa.lawOne
open Go.Sort Go.ChangeShapes Go.WideShapes Go.ChangeAt Go.RowKit Go.Proofs.Ytknpbbplolncpaa.Pure

theorem AAt.flatB {w : World} {a : Addr} {y : Ak} (h : AAt w a y) : w.cell? ⟨a.block, a.off + 5, none⟩ = some (.int .i64 y.k) ∧ w.cell? ⟨a.block, a.off + 6, none⟩ = some (.int .i64 y.who) ∧ w.cell? ⟨a.block, a.off + 7, none⟩ = some (.int .i64 y.by_) ∧ w.cell? ⟨a.block, a.off + 8, none⟩ = some (.int .u64 y.inc) := h
theorem sm_may {R : List Dt} (h : mayD R = true) : SmR R := by
  have := smR_may h
  exact ⟨by omega, fun x hx => by have := this.2 x hx; omega⟩
theorem one_clear (v : Value) (R : List Dt) (W : World) (who inc : Int) (hm : mayD R = true) (hv : Va W v R) : Calls Try.prog 17 #[v, .int .i64 who, .int .u64 inc] W (GivesR W (clearD R who inc) 0) := by
  have := l_clear v R W who inc (sm_may hm) hv
  unfold clearA at this
  rwa [if_pos hm] at this
theorem one_raise (v : Value) (R : List Dt) (W : World) (who inc b now : Int) (hm : mayD R = true) (hw : 0 ≤ who ∧ who < 64) (hb : 0 ≤ b ∧ b < 64) (ht : 0 ≤ now ∧ now ≤ 1099511627776) (hv : Va W v R) : Calls Try.prog 16 #[v, .int .i64 who, .int .u64 inc, .int .i64 b, .int .i64 now] W (GivesR W (raiseD R who inc b now) 0) := by
  have := l_raise v R W who inc b now (sm_may hm) hv
  have hr : mayR R who b now = true := (mayR_iff R who b now).2 ⟨hm, (nodeB_iff who).2 hw, (nodeB_iff b).2 hb, (tickB_iff now).2 ht⟩
  unfold raiseA at this
  rwa [if_pos hr] at this
/-- What was cleared, and the map. -/
theorem clear_fun {R : List Dt} {who inc i : Int} (hm : mayD R = true) (hi : incOf R who = some i) (hle : i ≤ inc) : (fun x => if x = who then none else incOf R x) = incOf (clearD R who inc) ∧ (if (incOf R who).isSome = true then R.length - 1 else R.length) = (clearD R who inc).length := by
  obtain ⟨h1, h2⟩ := clear_is (may_mem hm).2.2 hi hle
  exact ⟨(funext fun k => h1 k).symm, by rw [hi, h2]; rfl⟩
theorem raise_fun {R : List Dt} {who inc b now : Int} (hm : mayD R = true) (hi : ∀ i, incOf R who = some i → i < inc) : (fun x => if x = who then some inc else incOf R x) = incOf (raiseD R who inc b now) ∧ (if (incOf R who).isSome = true then R.length else R.length + 1) = (raiseD R who inc b now).length := by
  rw [raise_ins]
  obtain ⟨h1, h2⟩ := raise_is (who := who) (inc := inc) (b := b) (now := now) (may_mem hm).2.2
  refine ⟨(funext fun k => ?_).symm, h2.symm⟩
  rw [h1]
  rcases hf : incOf R who with _ | i
  · rfl
  · simp [hi i hf]
theorem raise_not {R : List Dt} {who inc b now i : Int} (hm : mayD R = true) (hi : incOf R who = some i) (hle : inc ≤ i) : incOf R = incOf (raiseD R who inc b now) ∧ R.length = (raiseD R who inc b now).length := by
  rw [raise_ins]
  obtain ⟨h1, h2⟩ := raise_is (who := who) (inc := inc) (b := b) (now := now) (may_mem hm).2.2
  refine ⟨(funext fun k => ?_).symm, by rw [h2, hi]; rfl⟩
  rw [h1, hi]
  by_cases hk : k = who
  · rw [if_pos hk, hk, hi]; simp; omega
  · rw [if_neg hk]

set_option maxRecDepth 100000 in
set_option maxHeartbeats 8000000 in
theorem walk (A : Option Addr) (c : Nat) (l : List Ak) (w : World) (h3 : As w A l) :
    Calls Try.prog 5 #[.slice A l.length c] w fun e w' => e = .returned (.bool true) ∧ Below w.heap.size w w' := by
  have HAS := Lib.hid h3
  clear h3
  have hmk := @run_makeMap Try.prog
  have HMM : Hid (Mu (w.alloc (.map #[] 0)) w.heap.size 0 (fun _ => none) 0) := Lib.hid (Mu.made w)
  have HB0 : Hid (Below w.heap.size w (w.alloc (.map #[] 0))) := Lib.hid ((Below.refl _ _).alloc (Nat.le_refl _) _)
  go_enter Try.func5, Try.ntmps5
  go_upto_region 3 with (fail)
  clear hmk
  generalize w.alloc (.map #[] 0) = w1 at *
  go_wp2_with fail
  go_loopw [3, 5] (fun vn i wr => ∃ (k n : Nat) (R : List Dt), i = .int .i64 k ∧ k ≤ l.length ∧ k ≤ 40 ∧ n ≤ k ∧ Hid (mayD R = true) ∧ Hid (Va wr vn R) ∧ Hid (Mu wr w.heap.size n (incOf R) R.length) ∧ Hid (Below w.heap.size w wr)) (fun _ i _ => l.length - (intOf i).toNat)
  case atStart => exact ⟨0, 0, [], rfl, Nat.zero_le _, Nat.zero_le _, Nat.zero_le _, Lib.hid (by decide), Lib.hid (Va.nil _), HMM, HB0⟩
  case round =>
    obtain ⟨wq, ewq⟩ : ∃ wq, wq = wr := ⟨_, rfl⟩
    subst ewq
    obtain ⟨k, n, R, rfl, hk, hk40, hn, HMY, HV, HM, HBq⟩ := hrel
    by_cases hlt : k < l.length
    · have q0 : decide ((k : Int) < (l.length : Int)) = true := by simp; omega
      have q0' : (k : Int) < (l.length : Int) := by omega
      by_cases hlt2 : k < 40
      · have q1 : decide ((k : Int) < 40) = true := by simp; omega
        have q1' : (k : Int) < 40 := by omega
        have k0 : (0 : Int) ≤ (k : Int) := by omega
        obtain ⟨ad, rfl, hlo, hat, hinc⟩ := HAS.out k hlt
        obtain ⟨a5, a6, a7, a8⟩ := AAt.flatB hat
        have HA5 := Lib.hid a5
        have HA6 := Lib.hid a6
        have HA7 := Lib.hid a7
        have HA8 := Lib.hid a8
        have HLO := Lib.hid (fun (o : Nat) => hlo)
        clear a5 a6 a7 a8 hat hlo
        generalize ak l k = y at *
        obtain ⟨r1, hr1⟩ : ∃ r1, Int.tmod y.who 8 = r1 := ⟨_, rfl⟩
        have r1b : -8 < r1 ∧ r1 < 8 := by rw [← hr1]; exact ⟨Int.lt_tmod_of_pos _ (by decide), Int.tmod_lt_of_pos _ (by decide)⟩
        obtain ⟨s1, hs1⟩ : ∃ s1, r1 + 8 = s1 := ⟨_, rfl⟩
        have ws1 : IntKind.i64.wrap (r1 + 8) = s1 := by rw [hs1, IntWalk.i64_in _ (by omega)]
        have wr1 : IntKind.i64.wrap r1 = r1 := IntWalk.i64_in _ (by omega)
        obtain ⟨u1, hu1⟩ : ∃ u1, Int.tmod s1 8 = u1 := ⟨_, rfl⟩
        have u1b : 0 ≤ u1 ∧ u1 < 64 := by rw [← hu1, Int.tmod_eq_emod_of_nonneg (by omega)]; omega
        have wu1 : IntKind.i64.wrap u1 = u1 := IntWalk.i64_in _ (by omega)
        obtain ⟨r2, hr2⟩ : ∃ r2, Int.tmod y.by_ 8 = r2 := ⟨_, rfl⟩
        have r2b : -8 < r2 ∧ r2 < 8 := by rw [← hr2]; exact ⟨Int.lt_tmod_of_pos _ (by decide), Int.tmod_lt_of_pos _ (by decide)⟩
        obtain ⟨s2, hs2⟩ : ∃ s2, r2 + 8 = s2 := ⟨_, rfl⟩
        have ws2 : IntKind.i64.wrap (r2 + 8) = s2 := by rw [hs2, IntWalk.i64_in _ (by omega)]
        have wr2 : IntKind.i64.wrap r2 = r2 := IntWalk.i64_in _ (by omega)
        obtain ⟨u2, hu2⟩ : ∃ u2, Int.tmod s2 8 = u2 := ⟨_, rfl⟩
        have u2b : 0 ≤ u2 ∧ u2 < 64 := by rw [← hu2, Int.tmod_eq_emod_of_nonneg (by omega)]; omega
        have wu2 : IntKind.i64.wrap u2 = u2 := IntWalk.i64_in _ (by omega)
        clear hs1 hs2 r1b r2b
        have U1 := Lib.hid u1b
        have U2 := Lib.hid u2b
        clear u1b u2b
        have a6 := cell_on HA6.out HBq.out
        have a7 := cell_on HA7.out HBq.out
        have X6 : ∀ p : Regrown, (grow (redrawn wq p.d) p.os).cell? ⟨(ad.add (k * 10)).block, (ad.add (k * 10)).off + 6, none⟩ = some (.int .i64 y.who) := fun p => cell_regrown a6 p.d p.os
        have X7 : ∀ p : Regrown, (grow (redrawn wq p.d) p.os).cell? ⟨(ad.add (k * 10)).block, (ad.add (k * 10)).off + 7, none⟩ = some (.int .i64 y.by_) := fun p => cell_regrown a7 p.d p.os
        have z8 : ¬(8 : Int) = 0 := by decide
        go_upto_region 6 with (fail)
        refine q_enter (by kernel_rfl) (by kernel_rfl) ?_
        iterate 18 (refine q_step ?_; intro K hK; go_simp; refine hK _ ?_; clear hK K)
        refine q_nil ?_
        intro wz hbz
        have HVz := Lib.hid (HV.out.on hbz)
        have HMz := Lib.hid (HM.out.on hbz)
        have HBz : Hid (Below w.heap.size w wz) := Lib.hid (HBq.out.trans (hbz.mono HBq.out.size))
        clear a6 a7 X6 X7 hbz HV HM HBq hr1 ws1 wr1 hu1 wu1 hr2 ws2 wr2 hu2 wu2
        obtain ⟨T, hT⟩ : ∃ T, (Int.tmod y.k 4 == 0) = T := ⟨_, rfl⟩
        obtain ⟨r4, hr4⟩ : ∃ r4, Int.tmod y.k 4 = r4 := ⟨_, rfl⟩
        rw [hr4] at hT
        have wr4 : IntKind.i64.wrap r4 = r4 := IntWalk.i64_in _ (by rw [← hr4]; have := Int.lt_tmod_of_pos y.k (show (0 : Int) < 4 by decide); have := Int.tmod_lt_of_pos y.k (show (0 : Int) < 4 by decide); omega)
        have a5 := cell_on HA5.out HBz.out
        have a8 := cell_on HA8.out HBz.out
        go_upto_if 52 with (fail)
        clear hr4 wr4 a5
        go_cut [3, 19] from 8 to 124 (fun s s19 wx => ∃ (n' : Nat) (R' : List Dt), s19 = .map (some w.heap.size) ∧ n' ≤ n + 1 ∧ Hid (mayD R' = true) ∧ Hid (Va wx s R') ∧ Hid (Mu wx w.heap.size n' (incOf R') R'.length) ∧ Hid (Below w.heap.size w wx))
        case first =>
          rcases T with _ | _
          · have HRR := Lib.hid (fun (v : Value) (W : World) (h : Va W v R) => one_raise v R W u1 y.inc u2 (k : Int) HMY.out U1.out U2.out (by omega) h)
            have HMR : Hid (mayD (raiseD R u1 y.inc u2 (k : Int)) = true) := Lib.hid (raise_may HMY.out U1.out U2.out (by omega))
            have HF1 := Lib.hid (fun h => raise_fun (R := R) (who := u1) (inc := y.inc) (b := u2) (now := (k : Int)) HMY.out h)
            have HF2 := Lib.hid (fun i h1 h2 => raise_not (R := R) (who := u1) (inc := y.inc) (b := u2) (now := (k : Int)) (i := i) HMY.out h1 h2)
            generalize raiseD R u1 y.inc u2 (k : Int) = R2 at *
            go_wp2_with fail
            refine (HRR.out _ _ HVz.out).mono ?_
            rintro e w2 ⟨v2, rfl, hv, hb⟩
            have HV2 := Lib.hid hv
            have HM2 := Lib.hid (HMz.out.on hb)
            have HB2 : Hid (Below w.heap.size w w2) := Lib.hid (HBz.out.trans (hb.mono HBz.out.size))
            have b8 := cell_on a8 hb
            clear hb hv a8 HVz HMz HBz HRR
            rcases hf : incOf R u1 with _ | i
            · have hlk := HM2.out.look u1 U1.out 0 false (by rw [hf]; rfl) (by rw [hf]; rfl)
              obtain ⟨w3, hrun, hm3, hg3⟩ := HM2.out.put (by omega) u1 y.inc U1.out hinc
              obtain ⟨e1, e2⟩ := HF1.out (fun i h => by rw [hf] at h; cases h)
              rw [e1, e2] at hm3
              have HV3 := Lib.hid (va_apart (fun a u hc => HM2.out.apart hc) HV2.out hg3)
              have HM3 := Lib.hid hm3
              have HB3 : Hid (Below w.heap.size w w3) := Lib.hid (HB2.out.grown hg3 HB2.out.size (by intro j hj; injection hj with hj; omega))
              clear hm3 hg3 e1 e2 HF1 HF2 hf HV2 HM2 HB2
              go_wp2_with fail
              go_meet
              exact ⟨n + 1, R2, rfl, by omega, HMR, HV3, HM3, HB3⟩
            · have hlk := HM2.out.look u1 U1.out i true (by rw [hf]; rfl) (by rw [hf]; rfl)
              by_cases hil : i < y.inc
              · have d0 : decide (i < y.inc) = true := by simpa using hil
                obtain ⟨w3, hrun, hm3, hg3⟩ := HM2.out.put (by omega) u1 y.inc U1.out hinc
                obtain ⟨e1, e2⟩ := HF1.out (fun j h => by rw [hf] at h; have := Option.some.inj h; omega)
                rw [e1, e2] at hm3
                have HV3 := Lib.hid (va_apart (fun a u hc => HM2.out.apart hc) HV2.out hg3)
                have HM3 := Lib.hid hm3
                have HB3 : Hid (Below w.heap.size w w3) := Lib.hid (HB2.out.grown hg3 HB2.out.size (by intro j hj; injection hj with hj; omega))
                clear hm3 hg3 e1 e2 HF1 HF2 hf HV2 HM2 HB2
                go_wp2_with fail
                go_meet
                exact ⟨n + 1, R2, rfl, by omega, HMR, HV3, HM3, HB3⟩
              · have d0 : decide (i < y.inc) = false := by simpa using hil
                obtain ⟨e1, e2⟩ := HF2.out i hf (by omega)
                have hm3 := HM2.out
                rw [e1, e2] at hm3
                have HM3 := Lib.hid hm3
                clear hm3 e1 e2 HF1 HF2 hf hil HM2
                go_wp2_with fail
                go_meet
                exact ⟨n, R2, rfl, by omega, HMR, HV2, HM3, HB2⟩
          · have HRR := Lib.hid (fun (v : Value) (W : World) (h : Va W v R) => one_clear v R W u1 y.inc HMY.out h)
            have HMR : Hid (mayD (clearD R u1 y.inc) = true) := Lib.hid (clear_may HMY.out u1 y.inc)
            have HF1 := Lib.hid (fun i h1 h2 => clear_fun (R := R) (who := u1) (inc := y.inc) (i := i) HMY.out h1 h2)
            have HF2 := Lib.hid (fun h => clear_not (l := R) (who := u1) (inc := y.inc) (may_mem HMY.out).2.2 h)
            generalize clearD R u1 y.inc = R2 at *
            go_wp2_with fail
            refine (HRR.out _ _ HVz.out).mono ?_
            rintro e w2 ⟨v2, rfl, hv, hb⟩
            have HV2 := Lib.hid hv
            have HM2 := Lib.hid (HMz.out.on hb)
            have HB2 : Hid (Below w.heap.size w w2) := Lib.hid (HBz.out.trans (hb.mono HBz.out.size))
            have b8 := cell_on a8 hb
            clear hb hv a8 HVz HMz HBz HRR
            rcases hf : incOf R u1 with _ | i
            · have hlk := HM2.out.look u1 U1.out 0 false (by rw [hf]; rfl) (by rw [hf]; rfl)
              have hm3 := HM2.out
              rw [← HF2.out (fun i h => by rw [hf] at h; cases h)] at hm3
              have HM3 := Lib.hid hm3
              clear hm3 HF1 HF2 hf HM2
              go_wp2_with fail
              go_meet
              exact ⟨n, R2, rfl, by omega, HMR, HV2, HM3, HB2⟩
            · have hlk := HM2.out.look u1 U1.out i true (by rw [hf]; rfl) (by rw [hf]; rfl)
              by_cases hil : i ≤ y.inc
              · have d0 : decide (i ≤ y.inc) = true := by simpa using hil
                obtain ⟨w3, hrun, hm3, hg3⟩ := HM2.out.drop u1 U1.out 0
                obtain ⟨e1, e2⟩ := HF1.out i hf hil
                rw [e1, e2] at hm3
                have HV3 := Lib.hid (va_apart (fun a u hc => HM2.out.apart hc) HV2.out hg3)
                have HM3 := Lib.hid hm3
                have HB3 : Hid (Below w.heap.size w w3) := Lib.hid (HB2.out.grown hg3 HB2.out.size (by intro j hj; injection hj with hj; omega))
                clear hm3 hg3 e1 e2 HF1 HF2 hf hil HV2 HM2 HB2
                go_wp2_with fail
                go_meet
                exact ⟨n, R2, rfl, by omega, HMR, HV3, HM3, HB3⟩
              · have d0 : decide (i ≤ y.inc) = false := by simpa using hil
                have hm3 := HM2.out
                rw [← HF2.out (fun j h => by rw [hf] at h; have := Option.some.inj h; omega)] at hm3
                have HM3 := Lib.hid hm3
                clear hm3 HF1 HF2 hf hil HM2
                go_wp2_with fail
                go_meet
                exact ⟨n, R2, rfl, by omega, HMR, HV2, HM3, HB2⟩
        obtain ⟨n', R', rfl, hn', HMY', HV', HM', HB'⟩ := hcut
        clear HVz HMz HBz a8 HMY
        have HCK := Lib.hid (fun (v : Value) (W : World) (h : Va W v R') => l_check v R' W (sm_may HMY'.out) h true HMY'.out)
        have ok0 : okE true = 0 := rfl
        rw [ok0] at HCK
        go_wp2_with fail
        refine (HCK.out _ _ HV'.out).mono ?_
        rintro e w5 ⟨rfl, hb⟩
        have HV5 := Lib.hid (HV'.out.on hb)
        have HM5 := Lib.hid (HM'.out.on hb)
        have HB5 : Hid (Below w.heap.size w w5) := Lib.hid (HB'.out.trans (hb.mono HB'.out.size))
        clear hb HV' HM' HB' HCK
        have hlen := HM5.out.len 3
        obtain ⟨A5, c5, ys, rfl, _, _, hds, hct⟩ := HV5.out
        have hyl : ys.length = R'.length := by rw [← hct, List.length_map]
        have HDS := Lib.hid hds
        have HIN : Hid (∀ j, j < ys.length → incOf R' (db ys j).w = some (db ys j).i ∧ 0 ≤ (db ys j).w ∧ (db ys j).w < 64) := Lib.hid (fun j hj => by
          have hm := may_mem HMY'.out
          have hx : (db ys j).ct ∈ R' := by rw [← hct]; exact List.mem_map_of_mem (db_mem ys hj)
          exact ⟨inc_at hm.2.2 _ hx, hm.2.1 _ hx⟩)
        have HYL : Hid (ys.length ≤ 64) := Lib.hid (by rw [hyl]; exact (smR_may HMY'.out).1)
        have HV6 := HV5
        rw [← hyl] at hlen
        clear hds hct HV5 hyl
        go_wp2_with fail
        clear hlen
        go_loopw [16] (fun i wr => ∃ j : Nat, i = .int .i64 j ∧ j ≤ ys.length ∧ wr = w5) (fun i _ => ys.length - (intOf i).toNat)
        case atStart => exact ⟨0, rfl, Nat.zero_le _, rfl⟩
        case round =>
          obtain ⟨j, rfl, hj, rfl⟩ := hrel
          by_cases hjl : j < ys.length
          · have p0 : decide ((j : Int) < (ys.length : Int)) = true := by simp; omega
            have p1 : (j : Int) < (ys.length : Int) := by omega
            have p2 : (0 : Int) ≤ (j : Int) := by omega
            have hyb : ys.length ≤ 64 := HYL.out
            obtain ⟨a5', rfl, _, hat, _⟩ := HDS.out j hjl
            obtain ⟨c0, c1, _, _⟩ := hat.flat
            obtain ⟨i1, i2⟩ := HIN.out j hjl
            have hlk := HM5.out.look (db ys j).w i2 (db ys j).i true (by rw [i1]; rfl) (by rw [i1]; rfl)
            clear hat i1
            generalize (db ys j).w = xw at *
            generalize (db ys j).i = xi at *
            go_wp2_with fail
            clear c0 c1 hlk
            go_roundw
            case rel => exact ⟨j + 1, by go_num, by omega, trivial⟩
            case measure => simp [intOf]; omega
          · obtain rfl : j = ys.length := by omega
            have p0 : decide ((ys.length : Int) < (ys.length : Int)) = false := by simp
            go_wp2_with fail
            go_roundw
            case rel =>
              exact ⟨k + 1, n', R', by go_num, by omega, by omega, by omega, HMY', HV6, HM5, HB5⟩
            case measure => simp [intOf]; omega
      · obtain rfl : k = 40 := by omega
        have q1 : decide (((40 : Nat) : Int) < 40) = false := by decide
        have q1' : ¬((40 : Nat) : Int) < 40 := by decide
        go_wp2_with fail
        refine (awake_any _).mono ?_
        rintro e wE ⟨rfl, hbE⟩
        have HE : Hid (Below w.heap.size w wE) := Lib.hid (HBq.out.trans (hbE.mono HBq.out.size))
        clear hbE
        go_wp2_with fail
        go_ret
        exact ⟨rfl, HE.out⟩
    · obtain rfl : k = l.length := by omega
      have q0 : decide ((l.length : Int) < (l.length : Int)) = false := by simp
      go_wp2_with fail
      refine (awake_any _).mono ?_
      rintro e wE ⟨rfl, hbE⟩
      have HE : Hid (Below w.heap.size w wE) := Lib.hid (HBq.out.trans (hbE.mono HBq.out.size))
      clear hbE
      go_wp2_with fail
      go_ret
      exact ⟨rfl, HE.out⟩

/-! ### the statement -/
theorem parOk : ∀ t ∈ (#[50] : Array TypeId).toList, Try.prog.readableRec t = true ∧ t < Try.prog.types.size := by
  have hall : ([50].all fun t => Try.prog.readableRec t && decide (t < Try.prog.types.size)) = true := by kernel_rfl
  intro t ht
  simpa using List.all_eq_true.1 hall t ht

set_option maxRecDepth 100000 in
/-- What the walk gives, for every argument. -/
theorem contract (H : Type) (enc : TypeId × Value → H) (W : World) (base : Nat) (args : Array Value) (ds gs : List (DataW H)) (before : List MemPlace)
    (hval : ∀ (j : Nat) t v, Try.f5.params[j]? = some t → args[j]? = some v → Value.okWide Try.prog W .any base t v)
    (hW : DataW.Whole enc Try.prog Try.f5.params.toList Rows.graceOneSpec.vars false W args.toList ds gs before) :
    Calls Try.prog 5 args W fun e W' => ∃ v, e = .returned v ∧ Rows.graceOneSpec.post enc Try.prog Try.f5 false true false false W args v W' := by
  have hW' := hW
  obtain ⟨p, q, hA0, hV, rfl, hfz, hnd⟩ := hW
  have hA : DataW.TrodAll enc Try.prog W 0 (fun _ => true) true Try.f5.params.toList args.toList ds p := hA0
  rw [Try.params5] at hA hval
  obtain ⟨v0, vs0, d0, ds0, p0, q0, hargs, rfl, rfl, h0, r0⟩ := trodAll_cons hA
  obtain ⟨rfl, rfl, rfl⟩ := trodAll_nil r0
  obtain rfl : args = #[v0] := by cases args; simp_all
  obtain ⟨rfl, rfl⟩ := trodVars_none hV
  obtain ⟨A, c, l, rfl, _, _, h3⟩ := open_asks (hval 0 50 v0 rfl rfl) h0
  clear hA0
  refine (walk A c l W h3).mono fun e W' ⟨he, hb⟩ => ?_
  subst he
  exact ⟨_, rfl, law_post rfl (by rw [Try.params5]; exact parOk) rfl hW' rfl rfl rfl hb⟩

set_option maxRecDepth 100000 in
theorem lifted (os : Os) (started : os.Started) (H : Type) (enc : TypeId × Value → H) :
    ReturnsInHanded {} Try.checked os 5 .any (Rows.graceOneSpec.pre6 enc Try.prog Try.f5 Rows.graceOneRow.domain false) (Rows.graceOneSpec.post enc Try.prog Try.f5 false true false false) := by
  refine returnsInHanded_of_change (C := Try.checked) own started (by kernel_rfl) Try.func5
    (ChangeSpec.witness6 (enc := enc) (C := Try.checked) false ⟨#[], #[.slice none 0 0], []⟩ 8 (by kernel_rfl) (by kernel_rfl) (by kernel_rfl) (by kernel_rfl)) ?_
  intro W base args ds gs before hval hW _ _
  exact contract H enc W base args ds gs before hval hW

/-- THE STATEMENT. -/
theorem said : Rows.GraceOneSaid :=
  OpenClaim.holds_of_wide 5 Try.f5 rfl rfl rfl rfl rfl rfl rfl ⟨rfl, rfl, rfl, rfl, rfl⟩ rfl rfl rfl rfl rfl (by kernel_rfl) Try.func5 (by kernel_rfl)
    (of_decide_eq_true (by kernel_rfl)) (by unfold Func.isWrapper; first | (rw [if_pos (by decide +kernel)]; kernel_rfl) | (rw [if_neg (by decide +kernel)]; exact ⟨rfl, rfl⟩))
    (fun os started H enc _ => lifted os started H enc)
end Go.Proofs.Ytknpbbplolncpaa.lawOne
