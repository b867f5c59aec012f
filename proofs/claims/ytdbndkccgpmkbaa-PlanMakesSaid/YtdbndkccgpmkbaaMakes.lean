/-
  PlanMakes: what differs, applied, makes the one the other one; back, it makes the other one the one: the law returns true for every input.
-/
import Derived.Test.YtdbndkccgpmkbaaFl
namespace Go.Proofs.Ytdbndkccgpmkbaa.lawMakes
open Go.ChangeMaps (open_string)
open Go.Sort Go.ChangeShapes Go.WideShapes Go.ChangeAt Go.RowKit Go.Joins Go.Proofs.Ytdbndkccgpmkbaa.Pure

set_option maxRecDepth 100000 in
set_option maxHeartbeats 4000000 in
theorem walk (A : Option Addr) (ca : Nat) (a0 : List Pu) (B : Option Addr) (cb : Nat) (b0 : List Pu) (w : World) (hca : a0.length ≤ ca) (hma : ca ≤ maxLen) (ha : Us w A a0) (sa : ShrtU a0) (hcb : b0.length ≤ cb) (hmb : cb ≤ maxLen) (hb : Us w B b0) (sb : ShrtU b0) :
    Calls Try.prog 4 #[.slice A a0.length ca, .slice B b0.length cb] w fun e w' => e = .returned (.bool true) ∧ Below w.heap.size w w' := by
  have HPa := Lib.hid (puts_any A ca a0 w hca hma ha)
  rw [← take_len a0] at HPa
  have Ha_0 := Lib.hid (ha.take 101)
  have Sa := (sa.take 101).map
  have hla : (a0.take 101).length ≤ 101 := by rw [take_len]; omega
  have HPb := Lib.hid (puts_any B cb b0 w hcb hmb hb)
  rw [← take_len b0] at HPb
  have Hb_0 := Lib.hid (hb.take 101)
  have Sb := (sb.take 101).map
  have hlb : (b0.take 101).length ≤ 101 := by rw [take_len]; omega
  generalize a0.take 101 = a at *
  generalize b0.take 101 = b at *
  generalize a0.length = na at *
  generalize b0.length = nb at *
  have B_0 := Lib.hid (Below.refl w.heap.size w)
  clear hca hma ha sa
  clear hcb hmb hb sb
  have HD := Lib.hid (fun (A B : Option Addr) (ca cb : Nat) (W : World) (hA : Us W A a) (hB : Us W B b) => diff_any A B ca cb a b W (by omega) (by omega) hA hB Sa Sb)
  by_cases he : dE a b = 0
  · obtain ⟨hoa, hob, hod, ⟨e1, e2⟩, ⟨e3, e4⟩, hok, ⟨e5, e6⟩, e7, e8⟩ := makes he
    have hla1 := hoa.len
    have hlb1 := hob.len
    have hld := hod.len
    have Sd := shrt_mov hod
    have hlk := hok.len
    have Sk := shrt_mov hok
    have HA1 := Lib.hid (fun (A B : Option Addr) (ca cb : Nat) (W : World) (hA : Us W A a) (hB : Vs W B (dR a b)) => apply_any A B ca cb a (dR a b) W (by omega) (by omega) hA hB Sa Sd)
    have HK := Lib.hid (fun (A : Option Addr) (ca : Nat) (W : World) (hA : Vs W A (dR a b)) => back_any A ca (dR a b) W (by omega) hA Sd)
    have HA2 := Lib.hid (fun (A B : Option Addr) (ca cb : Nat) (W : World) (hA : Us W A b) (hB : Vs W B (backP (dR a b))) => apply_any A B ca cb b (backP (dR a b)) W (by omega) (by omega) hA hB Sb Sk)
    have HD2 := Lib.hid (fun (A B : Option Addr) (ca cb : Nat) (W : World) (hA : Us W A b) (hB : Us W B a) => diff_any A B ca cb b a W (by omega) (by omega) hA hB Sb Sa)
    have HS1 := Lib.hid (fun (A B : Option Addr) (ca cb : Nat) (W : World) (hA : Us W A b) (hB : Us W B b) => same_puts A B ca cb b b W (by omega) hA hB true (by simp))
    have HS2 := Lib.hid (fun (A B : Option Addr) (ca cb : Nat) (W : World) (hA : Us W A a) (hB : Us W B a) => same_puts A B ca cb a a W (by omega) hA hB true (by simp))
    have HS3 := Lib.hid (fun (A B : Option Addr) (ca cb : Nat) (W : World) (hA : Vs W A (backP (dR a b))) (hB : Vs W B (backP (dR a b))) => same_mvs A B ca cb (backP (dR a b)) (backP (dR a b)) W (by omega) hA hB true (by simp))
    rw [he] at HD
    rw [e1, e2] at HA1
    rw [e3, e4] at HK
    rw [e5, e6] at HA2
    rw [e7, e8] at HD2
    generalize backP (dR a b) = k at *
    generalize dR a b = d at *
    clear hoa hob hod hok e1 e2 e3 e4 e5 e6 e7 e8 he hla1 hlb1 hld hlk Sa Sb Sd Sk hla hlb
    go_enter Try.func4, Try.ntmps4
    go_wp2_with fail
    refine HPa.out.mono ?_
    rintro e w0 ⟨rfl, rfl⟩
    go_wp2_with fail
    refine HPb.out.mono ?_
    rintro e w0 ⟨rfl, rfl⟩
    clear HPa HPb
    go_wp2_with fail
    refine (HD.out _ _ _ _ _ Ha_0.out Hb_0.out).mono ?_
    rintro e w2 ⟨v2, rfl, ho, hb⟩
    have a_1 := Lib.hid (Ha_0.out.on hb)
    have b_1 := Lib.hid (Hb_0.out.on hb)
    have B_1 := Lib.hid (B_0.out.trans (hb.mono B_0.out.size))
    clear Ha_0 Hb_0 B_0
    obtain ⟨Ad, kd, rfl, hkd, hu⟩ := ho.lst
    have d_2 := Lib.hid (hu)
    clear ho hu
    clear hb
    go_wp2_with fail
    refine (HA1.out _ _ _ _ _ a_1.out d_2.out).mono ?_
    rintro e w3 ⟨v3, rfl, ho, hb⟩
    have a_3 := Lib.hid (a_1.out.on hb)
    have b_3 := Lib.hid (b_1.out.on hb)
    have B_3 := Lib.hid (B_1.out.trans (hb.mono B_1.out.size))
    have d_3 := Lib.hid (d_2.out.on hb)
    clear a_1 b_1 B_1 d_2
    obtain ⟨Ax, kx, rfl, hkx, hu⟩ := ho.lst
    have x_4 := Lib.hid (hu)
    clear ho hu
    clear hb
    go_wp2_with fail
    refine (HK.out _ _ _ d_3.out).mono ?_
    rintro e w4 ⟨v4, rfl, ho, hb⟩
    clear d_3
    have a_5 := Lib.hid (a_3.out.on hb)
    have b_5 := Lib.hid (b_3.out.on hb)
    have B_5 := Lib.hid (B_3.out.trans (hb.mono B_3.out.size))
    have x_5 := Lib.hid (x_4.out.on hb)
    clear a_3 b_3 B_3 x_4
    obtain ⟨Ak, kk, rfl, hkk, hu⟩ := ho.lst
    have k_6 := Lib.hid (hu)
    clear ho hu
    clear hb
    go_wp2_with fail
    refine (HA2.out _ _ _ _ _ b_5.out k_6.out).mono ?_
    rintro e w5 ⟨v5, rfl, ho, hb⟩
    have a_7 := Lib.hid (a_5.out.on hb)
    have b_7 := Lib.hid (b_5.out.on hb)
    have B_7 := Lib.hid (B_5.out.trans (hb.mono B_5.out.size))
    have x_7 := Lib.hid (x_5.out.on hb)
    have k_7 := Lib.hid (k_6.out.on hb)
    clear a_5 b_5 B_5 x_5 k_6
    obtain ⟨Ay, ky, rfl, hky, hu⟩ := ho.lst
    have y_8 := Lib.hid (hu)
    clear ho hu
    clear hb
    go_wp2_with fail
    refine (HD2.out _ _ _ _ _ b_7.out a_7.out).mono ?_
    rintro e w6 ⟨v6, rfl, ho, hb⟩
    have a_9 := Lib.hid (a_7.out.on hb)
    have b_9 := Lib.hid (b_7.out.on hb)
    have B_9 := Lib.hid (B_7.out.trans (hb.mono B_7.out.size))
    have x_9 := Lib.hid (x_7.out.on hb)
    have k_9 := Lib.hid (k_7.out.on hb)
    have y_9 := Lib.hid (y_8.out.on hb)
    clear a_7 b_7 B_7 x_7 k_7 y_8
    obtain ⟨Az, kz, rfl, hkz, hu⟩ := ho.lst
    have z_10 := Lib.hid (hu)
    clear ho hu
    clear hb
    go_wp2_with fail
    refine (HS1.out _ _ _ _ _ x_9.out b_9.out).mono ?_
    rintro e w7 ⟨rfl, hb⟩
    clear x_9
    clear b_9
    have a_11 := Lib.hid (a_9.out.on hb)
    have B_11 := Lib.hid (B_9.out.trans (hb.mono B_9.out.size))
    have k_11 := Lib.hid (k_9.out.on hb)
    have y_11 := Lib.hid (y_9.out.on hb)
    have z_11 := Lib.hid (z_10.out.on hb)
    clear a_9 B_9 k_9 y_9 z_10
    clear hb
    go_wp2_with fail
    refine (HS2.out _ _ _ _ _ y_11.out a_11.out).mono ?_
    rintro e w8 ⟨rfl, hb⟩
    clear y_11
    clear a_11
    have B_12 := Lib.hid (B_11.out.trans (hb.mono B_11.out.size))
    have k_12 := Lib.hid (k_11.out.on hb)
    have z_12 := Lib.hid (z_11.out.on hb)
    clear B_11 k_11 z_11
    clear hb
    go_wp2_with fail
    refine (HS3.out _ _ _ _ _ z_12.out k_12.out).mono ?_
    rintro e w9 ⟨rfl, hb⟩
    clear z_12
    clear k_12
    have B_13 := Lib.hid (B_12.out.trans (hb.mono B_12.out.size))
    clear B_12
    clear hb
    go_wp2_with fail
    refine (awake_any _).mono ?_
    rintro e w99 ⟨rfl, hb99⟩
    go_wp2_with fail
    go_ret
    exact ⟨rfl, B_13.out.trans (hb99.mono B_13.out.size)⟩
  · rw [dR_of he] at HD
    have q1 : (dE a b == 0) = false := by simpa using he
    have q2 : (dE a b != 0) = true := by simpa using he
    generalize dE a b = E at *
    clear he Sa Sb hla hlb
    go_enter Try.func4, Try.ntmps4
    go_wp2_with fail
    refine HPa.out.mono ?_
    rintro e w0 ⟨rfl, rfl⟩
    go_wp2_with fail
    refine HPb.out.mono ?_
    rintro e w0 ⟨rfl, rfl⟩
    clear HPa HPb
    go_wp2_with fail
    refine (HD.out _ _ _ _ _ Ha_0.out Hb_0.out).mono ?_
    rintro e w2 ⟨v2, rfl, ho, hb⟩
    have a_1 := Lib.hid (Ha_0.out.on hb)
    have b_1 := Lib.hid (Hb_0.out.on hb)
    have B_1 := Lib.hid (B_0.out.trans (hb.mono B_0.out.size))
    clear Ha_0 Hb_0 B_0
    obtain ⟨Ad, kd, rfl, hkd, hu⟩ := ho.lst
    have d_2 := Lib.hid (hu)
    clear ho hu
    clear hb
    go_wp2_with fail
    refine (awake_any _).mono ?_
    rintro e w99 ⟨rfl, hb99⟩
    go_wp2_with fail
    go_ret
    exact ⟨rfl, B_1.out.trans (hb99.mono B_1.out.size)⟩

theorem parOk : ∀ t ∈ (#[22, 22] : Array TypeId).toList, Try.prog.readableRec t = true ∧ t < Try.prog.types.size := by
  have hall : ([22, 22].all fun t => Try.prog.readableRec t && decide (t < Try.prog.types.size)) = true := by kernel_rfl
  intro t ht
  simpa using List.all_eq_true.1 hall t ht

set_option maxRecDepth 100000 in
/-- What the walk gives, for every argument. -/
theorem contract (H : Type) (enc : TypeId × Value → H) (W : World) (base : Nat) (args : Array Value) (ds gs : List (DataW H)) (before : List MemPlace)
    (hval : ∀ (j : Nat) t v, Try.f4.params[j]? = some t → args[j]? = some v → Value.okWide Try.prog W .any base t v)
    (hW : DataW.Whole enc Try.prog Try.f4.params.toList Rows.planMakesSpec.vars false W args.toList ds gs before) :
    Calls Try.prog 4 args W fun e W' => ∃ v, e = .returned v ∧ Rows.planMakesSpec.post enc Try.prog Try.f4 false true false false W args v W' := by
  have hW' := hW
  obtain ⟨p, q, hA0, hV, rfl, hfz, hnd⟩ := hW
  have hA : DataW.TrodAll enc Try.prog W 0 (fun _ => true) true Try.f4.params.toList args.toList ds p := hA0
  rw [Try.params4] at hA hval
  obtain ⟨v0, vs0, d0, ds0, p0, q0, hargs, rfl, rfl, h0, r0⟩ := trodAll_cons hA
  obtain ⟨v1, vs1, d1, ds1, p1, q1, rfl, rfl, rfl, h1, r1⟩ := trodAll_cons r0
  obtain ⟨rfl, rfl, rfl⟩ := trodAll_nil r1
  obtain rfl : args = #[v0, v1] := by cases args; simp_all
  obtain ⟨rfl, rfl⟩ := trodVars_none hV
  obtain ⟨A, ca, a0, rfl, hca, hma, ha, sa⟩ := open_puts (hval 0 22 v0 rfl rfl) h0
  obtain ⟨B, cb, b0, rfl, hcb, hmb, hb, sb⟩ := open_puts (hval 1 22 v1 rfl rfl) h1
  clear hA0
  refine (walk A ca a0 B cb b0 W hca hma ha sa hcb hmb hb sb).mono fun e W' ⟨he, hb⟩ => ?_
  subst he
  exact ⟨_, rfl, law_post rfl (by rw [Try.params4]; exact parOk) rfl hW' rfl rfl rfl hb⟩

set_option maxRecDepth 100000 in
theorem lifted (os : Os) (started : os.Started) (H : Type) (enc : TypeId × Value → H) :
    ReturnsInHanded {} Try.checked os 4 .any (Rows.planMakesSpec.pre6 enc Try.prog Try.f4 Rows.planMakesRow.domain false) (Rows.planMakesSpec.post enc Try.prog Try.f4 false true false false) := by
  refine returnsInHanded_of_change (C := Try.checked) own started (by kernel_rfl) Try.func4
    (ChangeSpec.witness6 (enc := enc) (C := Try.checked) false ⟨#[], #[.slice none 0 0, .slice none 0 0], []⟩ 8 (by kernel_rfl) (by kernel_rfl) (by kernel_rfl) (by kernel_rfl)) ?_
  intro W base args ds gs before hval hW _ _
  exact contract H enc W base args ds gs before hval hW

/-- THE STATEMENT. -/
theorem said : Rows.PlanMakesSaid :=
  OpenClaim.holds_of_wide 4 Try.f4 rfl rfl rfl rfl rfl rfl rfl ⟨rfl, rfl, rfl, rfl, rfl⟩ rfl rfl rfl rfl rfl (by kernel_rfl) Try.func4 (by kernel_rfl)
    (of_decide_eq_true (by kernel_rfl)) (by unfold Func.isWrapper; first | (rw [if_pos (by decide +kernel)]; kernel_rfl) | (rw [if_neg (by decide +kernel)]; exact ⟨rfl, rfl⟩))
    (fun os started H enc _ => lifted os started H enc)
end Go.Proofs.Ytdbndkccgpmkbaa.lawMakes
