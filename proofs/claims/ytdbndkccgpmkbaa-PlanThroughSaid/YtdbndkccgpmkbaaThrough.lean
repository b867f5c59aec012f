/-
  PlanThrough: what differs between one and a second, and between that and a third, applied one behind the other, makes the third: the law returns true for every input.
-/
import Derived.Test.YtdbndkccgpmkbaaFl
namespace Go.Proofs.Ytdbndkccgpmkbaa.lawThrough
open Go.ChangeMaps (open_string)
open Go.Sort Go.ChangeShapes Go.WideShapes Go.ChangeAt Go.RowKit Go.Joins Go.Proofs.Ytdbndkccgpmkbaa.Pure

/-- Is one of the first j of them of that task? -/
def anyT (l : List Mv) (t : ByteArray) (j : Nat) : Bool := (l.take j).any fun m => decide (m.t = t)
theorem anyT_next (l : List Mv) (t : ByteArray) {j : Nat} (h : j < l.length) : anyT l t (j + 1) = (anyT l t j || decide ((mv l j).t = t)) := by
  unfold anyT
  rw [List.take_succ_eq_append_getElem h, List.any_append, mv_lt l h]
  simp
theorem anyT_all {l : List Mv} {t : ByteArray} (h : ∃ j, j < l.length ∧ (mv l j).t = t) : anyT l t l.length = true := by
  obtain ⟨j, hj, e⟩ := h
  unfold anyT
  rw [List.take_length, List.any_eq_true]
  exact ⟨l[j], List.getElem_mem hj, by rw [mv_lt l hj] at e; simpa using e⟩

set_option maxRecDepth 100000 in
set_option maxHeartbeats 4000000 in
theorem walk (A : Option Addr) (ca : Nat) (a0 : List Pu) (B : Option Addr) (cb : Nat) (b0 : List Pu) (C : Option Addr) (cc : Nat) (c0 : List Pu) (w : World) (hca : a0.length ≤ ca) (hma : ca ≤ maxLen) (ha : Us w A a0) (sa : ShrtU a0) (hcb : b0.length ≤ cb) (hmb : cb ≤ maxLen) (hb : Us w B b0) (sb : ShrtU b0) (hcc : c0.length ≤ cc) (hmc : cc ≤ maxLen) (hc : Us w C c0) (sc : ShrtU c0) :
    Calls Try.prog 8 #[.slice A a0.length ca, .slice B b0.length cb, .slice C c0.length cc] w fun e w' => e = .returned (.bool true) ∧ Below w.heap.size w w' := by
  have HPa := Lib.hid (puts_any A ca a0 w hca hma ha)
  rw [← take_len a0] at HPa
  have Ha_0 := Lib.hid (ha.take 101)
  have Sa := (sa.take 101).map
  have hla : (a0.take 101).length ≤ 101 := by rw [take_len]; omega
  have HPb := Lib.hid (puts_any B cb b0 w hcb hmb hb)
  rw [← take_len b0] at HPb
  have Hb_0 := Lib.hid (hb.take 101)
  have Sb := (sb.take 101).map
  have hlb : (b0.take 101).length ≤ 101 := by rw [take_len]; omega
  have HPc := Lib.hid (puts_any C cc c0 w hcc hmc hc)
  rw [← take_len c0] at HPc
  have Hc_0 := Lib.hid (hc.take 101)
  have Sc := (sc.take 101).map
  have hlc : (c0.take 101).length ≤ 101 := by rw [take_len]; omega
  generalize a0.take 101 = a at *
  generalize b0.take 101 = b at *
  generalize c0.take 101 = c at *
  generalize a0.length = na at *
  generalize b0.length = nb at *
  generalize c0.length = nc at *
  have B_0 := Lib.hid (Below.refl w.heap.size w)
  clear hca hma ha sa
  clear hcb hmb hb sb
  clear hcc hmc hc sc
  have HD1 := Lib.hid (fun (A B : Option Addr) (ca cb : Nat) (W : World) (hA : Us W A a) (hB : Us W B b) => diff_any A B ca cb a b W (by omega) (by omega) hA hB Sa Sb)
  have HD2 := Lib.hid (fun (A B : Option Addr) (ca cb : Nat) (W : World) (hA : Us W A b) (hB : Us W B c) => diff_any A B ca cb b c W (by omega) (by omega) hA hB Sb Sc)
  have HD3 := Lib.hid (fun (A B : Option Addr) (ca cb : Nat) (W : World) (hA : Us W A a) (hB : Us W B c) => diff_any A B ca cb a c W (by omega) (by omega) hA hB Sa Sc)
  by_cases h1 : dE a b = 0
  · by_cases h2 : dE b c = 0
    · by_cases h3 : dE a c = 0
      · obtain ⟨hoa, hob, hod, ⟨e1, e2⟩, _⟩ := makes h1
        obtain ⟨_, hoc, hox, ⟨e3, e4⟩, _⟩ := makes h2
        obtain ⟨t1, t2⟩ := through h1 h2 h3
        obtain ⟨_, _, hoy, _⟩ := makes h3
        have hld := hod.len
        have hlx := hox.len
        have hly := hoy.len
        have hlb1 := hob.len
        have Sd := shrt_mov hod
        have Sx := shrt_mov hox
        have HA1 := Lib.hid (fun (A B : Option Addr) (ca cb : Nat) (W : World) (hA : Us W A a) (hB : Vs W B (dR a b)) => apply_any A B ca cb a (dR a b) W (by omega) (by omega) hA hB Sa Sd)
        have HA2 := Lib.hid (fun (A B : Option Addr) (ca cb : Nat) (W : World) (hA : Us W A b) (hB : Vs W B (dR b c)) => apply_any A B ca cb b (dR b c) W (by omega) (by omega) hA hB Sb Sx)
        have HS := Lib.hid (fun (A B : Option Addr) (ca cb : Nat) (W : World) (hA : Us W A c) (hB : Us W B c) => same_puts A B ca cb c c W (by omega) hA hB true (by simp))
        rw [h1] at HD1
        rw [h2] at HD2
        rw [h3] at HD3
        rw [e1, e2] at HA1
        rw [e3, e4] at HA2
        generalize dR a b = d at *
        generalize dR b c = x at *
        generalize dR a c = y at *
        have HT2 := Lib.hid t2
        have q1 : IntKind.i64.wrap ((d.length : Int) + (x.length : Int)) = ((d.length + x.length : Nat) : Int) := by rw [IntWalk.i64_in _ (by omega)]; omega
        obtain ⟨sm, hsm⟩ : ∃ sm, d.length + x.length = sm := ⟨_, rfl⟩
        rw [hsm] at q1
        have q2 : decide ((sm : Int) < (y.length : Int)) = false := decide_eq_false (by omega)
        have q2' : decide (sm < y.length) = false := decide_eq_false (by omega)
        clear h1 h2 h3 hoa hob hod e1 e2 hoc hox e3 e4 t1 t2 hoy hlb1 Sd Sx Sa Sb Sc hla hlb hlc hsm
        go_enter Try.func8, Try.ntmps8
        go_wp2_with fail
        refine HPa.out.mono ?_
        rintro e w0 ⟨rfl, rfl⟩
        go_wp2_with fail
        refine HPb.out.mono ?_
        rintro e w0 ⟨rfl, rfl⟩
        go_wp2_with fail
        refine HPc.out.mono ?_
        rintro e w0 ⟨rfl, rfl⟩
        clear HPa HPb HPc
        go_wp2_with fail
        refine (HD1.out _ _ _ _ _ Ha_0.out Hb_0.out).mono ?_
        rintro e w2 ⟨v2, rfl, ho, hb⟩
        have a_1 := Lib.hid (Ha_0.out.on hb)
        have b_1 := Lib.hid (Hb_0.out.on hb)
        have c_1 := Lib.hid (Hc_0.out.on hb)
        have B_1 := Lib.hid (B_0.out.trans (hb.mono B_0.out.size))
        clear Ha_0 Hb_0 Hc_0 B_0
        obtain ⟨Ad, kd, rfl, hkd, hu⟩ := ho.lst
        have d_2 := Lib.hid (hu)
        clear ho hu
        clear hb
        go_wp2_with fail
        refine (HD2.out _ _ _ _ _ b_1.out c_1.out).mono ?_
        rintro e w3 ⟨v3, rfl, ho, hb⟩
        have a_3 := Lib.hid (a_1.out.on hb)
        have b_3 := Lib.hid (b_1.out.on hb)
        have c_3 := Lib.hid (c_1.out.on hb)
        have B_3 := Lib.hid (B_1.out.trans (hb.mono B_1.out.size))
        have d_3 := Lib.hid (d_2.out.on hb)
        clear a_1 b_1 c_1 B_1 d_2
        obtain ⟨Ax, kx, rfl, hkx, hu⟩ := ho.lst
        have x_4 := Lib.hid (hu)
        clear ho hu
        clear hb
        go_wp2_with fail
        refine (HD3.out _ _ _ _ _ a_3.out c_3.out).mono ?_
        rintro e w4 ⟨v4, rfl, ho, hb⟩
        have a_5 := Lib.hid (a_3.out.on hb)
        have b_5 := Lib.hid (b_3.out.on hb)
        have c_5 := Lib.hid (c_3.out.on hb)
        have B_5 := Lib.hid (B_3.out.trans (hb.mono B_3.out.size))
        have d_5 := Lib.hid (d_3.out.on hb)
        have x_5 := Lib.hid (x_4.out.on hb)
        clear a_3 b_3 c_3 B_3 d_3 x_4
        obtain ⟨Ay, ky, rfl, hky, hu⟩ := ho.lst
        have y_6 := Lib.hid (hu)
        clear ho hu
        clear hb
        clear HD1 HD2 HD3
        go_wp2_with fail
        refine (HA1.out _ _ _ _ _ a_5.out d_5.out).mono ?_
        rintro e w5 ⟨v5, rfl, ho, hb⟩
        clear a_5
        clear b_5
        have c_7 := Lib.hid (c_5.out.on hb)
        have B_7 := Lib.hid (B_5.out.trans (hb.mono B_5.out.size))
        have d_7 := Lib.hid (d_5.out.on hb)
        have x_7 := Lib.hid (x_5.out.on hb)
        have y_7 := Lib.hid (y_6.out.on hb)
        clear c_5 B_5 d_5 x_5 y_6
        obtain ⟨Ap, kp, rfl, hkp, hu⟩ := ho.lst
        have p_8 := Lib.hid (hu)
        clear ho hu
        clear hb
        go_wp2_with fail
        refine (HA2.out _ _ _ _ _ p_8.out x_7.out).mono ?_
        rintro e w6 ⟨v6, rfl, ho, hb⟩
        clear p_8
        have c_9 := Lib.hid (c_7.out.on hb)
        have B_9 := Lib.hid (B_7.out.trans (hb.mono B_7.out.size))
        have d_9 := Lib.hid (d_7.out.on hb)
        have x_9 := Lib.hid (x_7.out.on hb)
        have y_9 := Lib.hid (y_7.out.on hb)
        clear c_7 B_7 d_7 x_7 y_7
        obtain ⟨Ar, kr, rfl, hkr, hu⟩ := ho.lst
        have r_10 := Lib.hid (hu)
        clear ho hu
        clear hb
        go_wp2_with fail
        refine (HS.out _ _ _ _ _ r_10.out c_9.out).mono ?_
        rintro e w7 ⟨rfl, hb⟩
        clear r_10
        clear c_9
        have B_11 := Lib.hid (B_9.out.trans (hb.mono B_9.out.size))
        have d_11 := Lib.hid (d_9.out.on hb)
        have x_11 := Lib.hid (x_9.out.on hb)
        have y_11 := Lib.hid (y_9.out.on hb)
        clear B_9 d_9 x_9 y_9
        clear hb
        have HDD := d_11
        have HXX := x_11
        have HY := y_11
        clear d_11 x_11 y_11 HA1 HA2 HS
        go_wp2_with fail
        go_loopw [17] (fun i wr => ∃ k : Nat, i = .int .i64 k ∧ k ≤ y.length ∧ Hid (Below w7.heap.size w7 wr)) (fun i _ => y.length - (intOf i).toNat)
        case atStart => exact ⟨0, rfl, Nat.zero_le _, Lib.hid (Below.refl _ _)⟩
        case round =>
          obtain ⟨wq, ewq⟩ : ∃ wq, wq = wr := ⟨_, rfl⟩
          subst ewq
          obtain ⟨q, rfl, hqy, hb⟩ := hrel
          by_cases hq : q < y.length
          · have HR := Lib.hid (HT2.out q hq)
            obtain ⟨tt, htt⟩ : ∃ tt, (mv y q).t = tt := ⟨_, rfl⟩
            rw [htt] at HR
            have HTT := Lib.hid htt
            have HALL : Hid ((anyT d tt d.length || anyT x tt x.length) = true) := Lib.hid (by rcases HR.out with h | h <;> rw [anyT_all h] <;> simp)
            have q0 : (0 : Int) ≤ (q : Int) := by omega
            have q3 : (q : Int) < (y.length : Int) := by omega
            have q4 : decide ((q : Int) < (y.length : Int)) = true := decide_eq_true q3
            have q4' : decide (q < y.length) = true := decide_eq_true hq
            clear htt HR
            go_wp2_with fail
            go_loopw [18, 19] (fun m i wr => ∃ j : Nat, i = .int .i64 j ∧ j ≤ d.length ∧ m = .bool (false || anyT d tt j) ∧ Hid (Below w7.heap.size w7 wr)) (fun _ i _ => d.length - (intOf i).toNat)
            case atStart => exact ⟨0, rfl, Nat.zero_le _, by simp [anyT], hb⟩
            case round =>
              obtain ⟨wj, ewj⟩ : ∃ wj, wj = wr := ⟨_, rfl⟩
              subst ewj
              obtain ⟨j, rfl, hj, rfl, hbj⟩ := hrel
              by_cases hjl : j < d.length
              · obtain ⟨add, ed, hlod, hd⟩ := (HDD.out.on hbj.out) j hjl
                obtain ⟨g0, g1, g2⟩ := hd.flat
                obtain ⟨adY, eY, hloY, hY⟩ := (HY.out.on hbj.out) q hq
                obtain ⟨r0, r1, r2⟩ := hY.flat
                rw [HTT.out] at r0
                have HN := Lib.hid (anyT_next d tt hjl)
                have hsz := Lib.hid hbj.out.size
                obtain ⟨u, hu⟩ : ∃ u, (mv d j).t = u := ⟨_, rfl⟩
                rw [hu] at g0 HN
                clear hu hd hY g1 g2 r1 r2
                have qe := eq_is u tt
                subst ed eY
                have j0 : (0 : Int) ≤ (j : Int) := by omega
                have j1 : (j : Int) < (d.length : Int) := by omega
                have d1 : decide ((j : Int) < (d.length : Int)) = true := decide_eq_true j1
                have d1' : decide (j < d.length) = true := decide_eq_true hjl
                have G0 : ∀ p : Regrown, (grow (redrawn wj p.d) p.os).cell? (add.add (j * 3)) = some (.string u) := fun p => cell_regrown g0 p.d p.os
                have R0 : ∀ p : Regrown, (grow (redrawn wj p.d) p.os).cell? (adY.add (q * 3)) = some (.string tt) := fun p => cell_regrown r0 p.d p.os
                obtain ⟨T, hT⟩ : ∃ T, decide (u = tt) = T := ⟨_, rfl⟩
                rw [hT] at qe HN
                clear hT g0 r0
                obtain ⟨M, hM⟩ : ∃ M, (false || anyT d tt j) = M := ⟨_, rfl⟩
                have HM : Hid ((false || anyT d tt (j + 1)) = (M || T)) := Lib.hid (by rw [HN.out, ← Bool.or_assoc, hM])
                rw [hM]
                clear hM HN
                rcases M with _ | _
                · go_upto_region 18 with (fail)
                  refine q_enter (by kernel_rfl) (by kernel_rfl) ?_
                  iterate 15 (refine q_step ?_; intro K hK; go_simp; refine hK _ ?_; clear hK K)
                  refine q_nil ?_
                  intro wz hbz
                  have HZ : Hid (Below w7.heap.size w7 wz) := Lib.hid (hbj.out.trans (hbz.mono hsz.out))
                  clear hbz G0 R0
                  go_wp2_with fail
                  go_roundw
                  case rel => exact ⟨j + 1, by go_num, by omega, by rw [HM.out]; simp, HZ⟩
                  case measure => simp [intOf]; omega
                · go_upto_region 18 with (fail)
                  refine q_enter (by kernel_rfl) (by kernel_rfl) ?_
                  iterate 15 (refine q_step ?_; intro K hK; go_simp; refine hK _ ?_; clear hK K)
                  refine q_nil ?_
                  intro wz hbz
                  have HZ : Hid (Below w7.heap.size w7 wz) := Lib.hid (hbj.out.trans (hbz.mono hsz.out))
                  clear hbz G0 R0
                  go_wp2_with fail
                  go_roundw
                  case rel => exact ⟨j + 1, by go_num, by omega, by rw [HM.out]; simp, HZ⟩
                  case measure => simp [intOf]; omega
              · obtain rfl : j = d.length := by omega
                have d0 : decide ((d.length : Int) < (d.length : Int)) = false := by simp
                obtain ⟨M1, hM1⟩ : ∃ M1, anyT d tt d.length = M1 := ⟨_, rfl⟩
                rw [Bool.false_or, hM1]
                have HALL2 : Hid ((M1 || anyT x tt x.length) = true) := Lib.hid (by rw [← hM1]; exact HALL.out)
                clear hM1 HALL
                go_wp2_with fail
                go_loopw [18, 20] (fun m i wr => ∃ j : Nat, i = .int .i64 j ∧ j ≤ x.length ∧ m = .bool (M1 || anyT x tt j) ∧ Hid (Below w7.heap.size w7 wr)) (fun _ i _ => x.length - (intOf i).toNat)
                case atStart => exact ⟨0, rfl, Nat.zero_le _, by simp [anyT], hbj⟩
                case round =>
                  obtain ⟨wj, ewj⟩ : ∃ wj, wj = wr := ⟨_, rfl⟩
                  subst ewj
                  obtain ⟨j, rfl, hj, rfl, hbj⟩ := hrel
                  by_cases hjl : j < x.length
                  · obtain ⟨adx, ex, hlox, hx⟩ := (HXX.out.on hbj.out) j hjl
                    obtain ⟨g0, g1, g2⟩ := hx.flat
                    obtain ⟨adY, eY, hloY, hY⟩ := (HY.out.on hbj.out) q hq
                    obtain ⟨r0, r1, r2⟩ := hY.flat
                    rw [HTT.out] at r0
                    have HN := Lib.hid (anyT_next x tt hjl)
                    have hsz := Lib.hid hbj.out.size
                    obtain ⟨u, hu⟩ : ∃ u, (mv x j).t = u := ⟨_, rfl⟩
                    rw [hu] at g0 HN
                    clear hu hx hY g1 g2 r1 r2
                    have qe := eq_is u tt
                    subst ex eY
                    have j0 : (0 : Int) ≤ (j : Int) := by omega
                    have j1 : (j : Int) < (x.length : Int) := by omega
                    have d1 : decide ((j : Int) < (x.length : Int)) = true := decide_eq_true j1
                    have d1' : decide (j < x.length) = true := decide_eq_true hjl
                    have G0 : ∀ p : Regrown, (grow (redrawn wj p.d) p.os).cell? (adx.add (j * 3)) = some (.string u) := fun p => cell_regrown g0 p.d p.os
                    have R0 : ∀ p : Regrown, (grow (redrawn wj p.d) p.os).cell? (adY.add (q * 3)) = some (.string tt) := fun p => cell_regrown r0 p.d p.os
                    obtain ⟨T, hT⟩ : ∃ T, decide (u = tt) = T := ⟨_, rfl⟩
                    rw [hT] at qe HN
                    clear hT g0 r0
                    obtain ⟨M, hM⟩ : ∃ M, (M1 || anyT x tt j) = M := ⟨_, rfl⟩
                    have HM : Hid ((M1 || anyT x tt (j + 1)) = (M || T)) := Lib.hid (by rw [HN.out, ← Bool.or_assoc, hM])
                    rw [hM]
                    clear hM HN
                    rcases M with _ | _
                    · go_upto_region 22 with (fail)
                      refine q_enter (by kernel_rfl) (by kernel_rfl) ?_
                      iterate 15 (refine q_step ?_; intro K hK; go_simp; refine hK _ ?_; clear hK K)
                      refine q_nil ?_
                      intro wz hbz
                      have HZ : Hid (Below w7.heap.size w7 wz) := Lib.hid (hbj.out.trans (hbz.mono hsz.out))
                      clear hbz G0 R0
                      go_wp2_with fail
                      go_roundw
                      case rel => exact ⟨j + 1, by go_num, by omega, by rw [HM.out]; simp, HZ⟩
                      case measure => simp [intOf]; omega
                    · go_upto_region 22 with (fail)
                      refine q_enter (by kernel_rfl) (by kernel_rfl) ?_
                      iterate 15 (refine q_step ?_; intro K hK; go_simp; refine hK _ ?_; clear hK K)
                      refine q_nil ?_
                      intro wz hbz
                      have HZ : Hid (Below w7.heap.size w7 wz) := Lib.hid (hbj.out.trans (hbz.mono hsz.out))
                      clear hbz G0 R0
                      go_wp2_with fail
                      go_roundw
                      case rel => exact ⟨j + 1, by go_num, by omega, by rw [HM.out]; simp, HZ⟩
                      case measure => simp [intOf]; omega
                  · obtain rfl : j = x.length := by omega
                    have d2 : decide ((x.length : Int) < (x.length : Int)) = false := by simp
                    rw [HALL2.out]
                    go_wp2_with fail
                    go_roundw
                    case rel => exact ⟨q + 1, by go_num, by omega, hbj⟩
                    case measure => simp [intOf]; omega
          · obtain rfl : q = y.length := by omega
            have d3 : decide ((y.length : Int) < (y.length : Int)) = false := by simp
            have HBE := Lib.hid (B_11.out.trans (hb.out.mono B_11.out.size))
            go_wp2_with fail
            refine (awake_any _).mono ?_
            rintro e w99 ⟨rfl, hb99⟩
            go_wp2_with fail
            go_ret
            exact ⟨rfl, HBE.out.trans (hb99.mono HBE.out.size)⟩
      · have p1 : (dE a c == 0) = false := by simpa using h3
        have p2 : (dE a c != 0) = true := by simpa using h3
        rw [h1] at HD1
        rw [h2] at HD2
        generalize dE a c = E3 at *
        generalize dR a b = d at *
        generalize dR b c = x at *
        generalize dR a c = y at *
        clear h1 h2 h3 Sa Sb Sc hla hlb hlc
        go_enter Try.func8, Try.ntmps8
        go_wp2_with fail
        refine HPa.out.mono ?_
        rintro e w0 ⟨rfl, rfl⟩
        go_wp2_with fail
        refine HPb.out.mono ?_
        rintro e w0 ⟨rfl, rfl⟩
        go_wp2_with fail
        refine HPc.out.mono ?_
        rintro e w0 ⟨rfl, rfl⟩
        clear HPa HPb HPc
        go_wp2_with fail
        refine (HD1.out _ _ _ _ _ Ha_0.out Hb_0.out).mono ?_
        rintro e w2 ⟨v2, rfl, ho, hb⟩
        have a_1 := Lib.hid (Ha_0.out.on hb)
        have b_1 := Lib.hid (Hb_0.out.on hb)
        have c_1 := Lib.hid (Hc_0.out.on hb)
        have B_1 := Lib.hid (B_0.out.trans (hb.mono B_0.out.size))
        clear Ha_0 Hb_0 Hc_0 B_0
        obtain ⟨Ad, kd, rfl, hkd, hu⟩ := ho.lst
        have d_2 := Lib.hid (hu)
        clear ho hu
        clear hb
        go_wp2_with fail
        refine (HD2.out _ _ _ _ _ b_1.out c_1.out).mono ?_
        rintro e w3 ⟨v3, rfl, ho, hb⟩
        have a_3 := Lib.hid (a_1.out.on hb)
        have b_3 := Lib.hid (b_1.out.on hb)
        have c_3 := Lib.hid (c_1.out.on hb)
        have B_3 := Lib.hid (B_1.out.trans (hb.mono B_1.out.size))
        have d_3 := Lib.hid (d_2.out.on hb)
        clear a_1 b_1 c_1 B_1 d_2
        obtain ⟨Ax, kx, rfl, hkx, hu⟩ := ho.lst
        have x_4 := Lib.hid (hu)
        clear ho hu
        clear hb
        go_wp2_with fail
        refine (HD3.out _ _ _ _ _ a_3.out c_3.out).mono ?_
        rintro e w4 ⟨v4, rfl, ho, hb⟩
        have a_5 := Lib.hid (a_3.out.on hb)
        have b_5 := Lib.hid (b_3.out.on hb)
        have c_5 := Lib.hid (c_3.out.on hb)
        have B_5 := Lib.hid (B_3.out.trans (hb.mono B_3.out.size))
        have d_5 := Lib.hid (d_3.out.on hb)
        have x_5 := Lib.hid (x_4.out.on hb)
        clear a_3 b_3 c_3 B_3 d_3 x_4
        obtain ⟨Ay, ky, rfl, hky, hu⟩ := ho.lst
        have y_6 := Lib.hid (hu)
        clear ho hu
        clear hb
        go_wp2_with fail
        refine (awake_any _).mono ?_
        rintro e w99 ⟨rfl, hb99⟩
        go_wp2_with fail
        go_ret
        exact ⟨rfl, B_5.out.trans (hb99.mono B_5.out.size)⟩
    · have p1 : (dE b c == 0) = false := by simpa using h2
      have p2 : (dE b c != 0) = true := by simpa using h2
      rw [h1] at HD1
      generalize dE b c = E2 at *
      generalize dE a c = E3 at *
      generalize dR a b = d at *
      generalize dR b c = x at *
      generalize dR a c = y at *
      clear h1 h2 Sa Sb Sc hla hlb hlc
      go_enter Try.func8, Try.ntmps8
      go_wp2_with fail
      refine HPa.out.mono ?_
      rintro e w0 ⟨rfl, rfl⟩
      go_wp2_with fail
      refine HPb.out.mono ?_
      rintro e w0 ⟨rfl, rfl⟩
      go_wp2_with fail
      refine HPc.out.mono ?_
      rintro e w0 ⟨rfl, rfl⟩
      clear HPa HPb HPc
      go_wp2_with fail
      refine (HD1.out _ _ _ _ _ Ha_0.out Hb_0.out).mono ?_
      rintro e w2 ⟨v2, rfl, ho, hb⟩
      have a_1 := Lib.hid (Ha_0.out.on hb)
      have b_1 := Lib.hid (Hb_0.out.on hb)
      have c_1 := Lib.hid (Hc_0.out.on hb)
      have B_1 := Lib.hid (B_0.out.trans (hb.mono B_0.out.size))
      clear Ha_0 Hb_0 Hc_0 B_0
      obtain ⟨Ad, kd, rfl, hkd, hu⟩ := ho.lst
      have d_2 := Lib.hid (hu)
      clear ho hu
      clear hb
      go_wp2_with fail
      refine (HD2.out _ _ _ _ _ b_1.out c_1.out).mono ?_
      rintro e w3 ⟨v3, rfl, ho, hb⟩
      have a_3 := Lib.hid (a_1.out.on hb)
      have b_3 := Lib.hid (b_1.out.on hb)
      have c_3 := Lib.hid (c_1.out.on hb)
      have B_3 := Lib.hid (B_1.out.trans (hb.mono B_1.out.size))
      have d_3 := Lib.hid (d_2.out.on hb)
      clear a_1 b_1 c_1 B_1 d_2
      obtain ⟨Ax, kx, rfl, hkx, hu⟩ := ho.lst
      have x_4 := Lib.hid (hu)
      clear ho hu
      clear hb
      go_wp2_with fail
      refine (HD3.out _ _ _ _ _ a_3.out c_3.out).mono ?_
      rintro e w4 ⟨v4, rfl, ho, hb⟩
      have a_5 := Lib.hid (a_3.out.on hb)
      have b_5 := Lib.hid (b_3.out.on hb)
      have c_5 := Lib.hid (c_3.out.on hb)
      have B_5 := Lib.hid (B_3.out.trans (hb.mono B_3.out.size))
      have d_5 := Lib.hid (d_3.out.on hb)
      have x_5 := Lib.hid (x_4.out.on hb)
      clear a_3 b_3 c_3 B_3 d_3 x_4
      obtain ⟨Ay, ky, rfl, hky, hu⟩ := ho.lst
      have y_6 := Lib.hid (hu)
      clear ho hu
      clear hb
      go_wp2_with fail
      refine (awake_any _).mono ?_
      rintro e w99 ⟨rfl, hb99⟩
      go_wp2_with fail
      go_ret
      exact ⟨rfl, B_5.out.trans (hb99.mono B_5.out.size)⟩
  · have p1 : (dE a b == 0) = false := by simpa using h1
    have p2 : (dE a b != 0) = true := by simpa using h1
    generalize dE a b = E1 at *
    generalize dE b c = E2 at *
    generalize dE a c = E3 at *
    generalize dR a b = d at *
    generalize dR b c = x at *
    generalize dR a c = y at *
    clear h1 Sa Sb Sc hla hlb hlc
    go_enter Try.func8, Try.ntmps8
    go_wp2_with fail
    refine HPa.out.mono ?_
    rintro e w0 ⟨rfl, rfl⟩
    go_wp2_with fail
    refine HPb.out.mono ?_
    rintro e w0 ⟨rfl, rfl⟩
    go_wp2_with fail
    refine HPc.out.mono ?_
    rintro e w0 ⟨rfl, rfl⟩
    clear HPa HPb HPc
    go_wp2_with fail
    refine (HD1.out _ _ _ _ _ Ha_0.out Hb_0.out).mono ?_
    rintro e w2 ⟨v2, rfl, ho, hb⟩
    have a_1 := Lib.hid (Ha_0.out.on hb)
    have b_1 := Lib.hid (Hb_0.out.on hb)
    have c_1 := Lib.hid (Hc_0.out.on hb)
    have B_1 := Lib.hid (B_0.out.trans (hb.mono B_0.out.size))
    clear Ha_0 Hb_0 Hc_0 B_0
    obtain ⟨Ad, kd, rfl, hkd, hu⟩ := ho.lst
    have d_2 := Lib.hid (hu)
    clear ho hu
    clear hb
    go_wp2_with fail
    refine (HD2.out _ _ _ _ _ b_1.out c_1.out).mono ?_
    rintro e w3 ⟨v3, rfl, ho, hb⟩
    have a_3 := Lib.hid (a_1.out.on hb)
    have b_3 := Lib.hid (b_1.out.on hb)
    have c_3 := Lib.hid (c_1.out.on hb)
    have B_3 := Lib.hid (B_1.out.trans (hb.mono B_1.out.size))
    have d_3 := Lib.hid (d_2.out.on hb)
    clear a_1 b_1 c_1 B_1 d_2
    obtain ⟨Ax, kx, rfl, hkx, hu⟩ := ho.lst
    have x_4 := Lib.hid (hu)
    clear ho hu
    clear hb
    go_wp2_with fail
    refine (HD3.out _ _ _ _ _ a_3.out c_3.out).mono ?_
    rintro e w4 ⟨v4, rfl, ho, hb⟩
    have a_5 := Lib.hid (a_3.out.on hb)
    have b_5 := Lib.hid (b_3.out.on hb)
    have c_5 := Lib.hid (c_3.out.on hb)
    have B_5 := Lib.hid (B_3.out.trans (hb.mono B_3.out.size))
    have d_5 := Lib.hid (d_3.out.on hb)
    have x_5 := Lib.hid (x_4.out.on hb)
    clear a_3 b_3 c_3 B_3 d_3 x_4
    obtain ⟨Ay, ky, rfl, hky, hu⟩ := ho.lst
    have y_6 := Lib.hid (hu)
    clear ho hu
    clear hb
    go_wp2_with fail
    refine (awake_any _).mono ?_
    rintro e w99 ⟨rfl, hb99⟩
    go_wp2_with fail
    go_ret
    exact ⟨rfl, B_5.out.trans (hb99.mono B_5.out.size)⟩

theorem parOk : ∀ t ∈ (#[22, 22, 22] : Array TypeId).toList, Try.prog.readableRec t = true ∧ t < Try.prog.types.size := by
  have hall : ([22, 22, 22].all fun t => Try.prog.readableRec t && decide (t < Try.prog.types.size)) = true := by kernel_rfl
  intro t ht
  simpa using List.all_eq_true.1 hall t ht

set_option maxRecDepth 100000 in
/-- What the walk gives, for every argument. -/
theorem contract (H : Type) (enc : TypeId × Value → H) (W : World) (base : Nat) (args : Array Value) (ds gs : List (DataW H)) (before : List MemPlace)
    (hval : ∀ (j : Nat) t v, Try.f8.params[j]? = some t → args[j]? = some v → Value.okWide Try.prog W .any base t v)
    (hW : DataW.Whole enc Try.prog Try.f8.params.toList Rows.planThroughSpec.vars false W args.toList ds gs before) :
    Calls Try.prog 8 args W fun e W' => ∃ v, e = .returned v ∧ Rows.planThroughSpec.post enc Try.prog Try.f8 false true false false W args v W' := by
  have hW' := hW
  obtain ⟨p, q, hA0, hV, rfl, hfz, hnd⟩ := hW
  have hA : DataW.TrodAll enc Try.prog W 0 (fun _ => true) true Try.f8.params.toList args.toList ds p := hA0
  rw [Try.params8] at hA hval
  obtain ⟨v0, vs0, d0, ds0, p0, q0, hargs, rfl, rfl, h0, r0⟩ := trodAll_cons hA
  obtain ⟨v1, vs1, d1, ds1, p1, q1, rfl, rfl, rfl, h1, r1⟩ := trodAll_cons r0
  obtain ⟨v2, vs2, d2, ds2, p2, q2, rfl, rfl, rfl, h2, r2⟩ := trodAll_cons r1
  obtain ⟨rfl, rfl, rfl⟩ := trodAll_nil r2
  obtain rfl : args = #[v0, v1, v2] := by cases args; simp_all
  obtain ⟨rfl, rfl⟩ := trodVars_none hV
  obtain ⟨A, ca, a0, rfl, hca, hma, ha, sa⟩ := open_puts (hval 0 22 v0 rfl rfl) h0
  obtain ⟨B, cb, b0, rfl, hcb, hmb, hb, sb⟩ := open_puts (hval 1 22 v1 rfl rfl) h1
  obtain ⟨C, cc, c0, rfl, hcc, hmc, hc, sc⟩ := open_puts (hval 2 22 v2 rfl rfl) h2
  clear hA0
  refine (walk A ca a0 B cb b0 C cc c0 W hca hma ha sa hcb hmb hb sb hcc hmc hc sc).mono fun e W' ⟨he, hb⟩ => ?_
  subst he
  exact ⟨_, rfl, law_post rfl (by rw [Try.params8]; exact parOk) rfl hW' rfl rfl rfl hb⟩

set_option maxRecDepth 100000 in
theorem lifted (os : Os) (started : os.Started) (H : Type) (enc : TypeId × Value → H) :
    ReturnsInHanded {} Try.checked os 8 .any (Rows.planThroughSpec.pre6 enc Try.prog Try.f8 Rows.planThroughRow.domain false) (Rows.planThroughSpec.post enc Try.prog Try.f8 false true false false) := by
  refine returnsInHanded_of_change (C := Try.checked) own started (by kernel_rfl) Try.func8
    (ChangeSpec.witness6 (enc := enc) (C := Try.checked) false ⟨#[], #[.slice none 0 0, .slice none 0 0, .slice none 0 0], []⟩ 8 (by kernel_rfl) (by kernel_rfl) (by kernel_rfl) (by kernel_rfl)) ?_
  intro W base args ds gs before hval hW _ _
  exact contract H enc W base args ds gs before hval hW

/-- THE STATEMENT. -/
theorem said : Rows.PlanThroughSaid :=
  OpenClaim.holds_of_wide 8 Try.f8 rfl rfl rfl rfl rfl rfl rfl ⟨rfl, rfl, rfl, rfl, rfl⟩ rfl rfl rfl rfl rfl (by kernel_rfl) Try.func8 (by kernel_rfl)
    (of_decide_eq_true (by kernel_rfl)) (by unfold Func.isWrapper; first | (rw [if_pos (by decide +kernel)]; kernel_rfl) | (rw [if_neg (by decide +kernel)]; exact ⟨rfl, rfl⟩))
    (fun os started H enc _ => lifted os started H enc)
end Go.Proofs.Ytdbndkccgpmkbaa.lawThrough
