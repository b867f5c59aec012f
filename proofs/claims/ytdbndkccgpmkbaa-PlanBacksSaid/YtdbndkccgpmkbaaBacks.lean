/-
  PlanBacks: moves applied, and then back, leave all as it was; moves that are back twice are as they were: the law returns true for every input.
-/
import Derived.Test.YtdbndkccgpmkbaaFl
namespace Go.Proofs.Ytdbndkccgpmkbaa.lawBacks
open Go.ChangeMaps (open_string)
open Go.Sort Go.ChangeShapes Go.WideShapes Go.ChangeAt Go.RowKit Go.Joins Go.Proofs.Ytdbndkccgpmkbaa.Pure

set_option maxRecDepth 100000 in
set_option maxHeartbeats 4000000 in
theorem walk (A : Option Addr) (ca : Nat) (a0 : List Pu) (L : Option Addr) (cl : Nat) (l0 : List Mv) (w : World) (hca : a0.length ≤ ca) (hma : ca ≤ maxLen) (ha : Us w A a0) (sa : ShrtU a0) (hcl : l0.length ≤ cl) (hml : cl ≤ maxLen) (hl : Vs w L l0) (sl : FitV l0) :
    Calls Try.prog 7 #[.slice A a0.length ca, .slice L l0.length cl] w fun e w' => e = .returned (.bool true) ∧ Below w.heap.size w w' := by
  have HPa := Lib.hid (puts_any A ca a0 w hca hma ha)
  rw [← take_len a0] at HPa
  have Ha_0 := Lib.hid (ha.take 101)
  have Sa := (sa.take 101).map
  have hla : (a0.take 101).length ≤ 101 := by rw [take_len]; omega
  have HPl := Lib.hid (moves_any L cl l0 w hcl hml hl)
  rw [← take_len l0] at HPl
  have Hl_0 := Lib.hid (hl.take 101)
  have Sl := (sl.take 101).map
  have hll : (l0.take 101).length ≤ 101 := by rw [take_len]; omega
  generalize a0.take 101 = a at *
  generalize l0.take 101 = l at *
  generalize a0.length = na at *
  generalize l0.length = nl at *
  have B_0 := Lib.hid (Below.refl w.heap.size w)
  clear hca hma ha sa
  clear hcl hml hl sl
  have HK1 := Lib.hid (fun (A : Option Addr) (ca : Nat) (W : World) (hA : Vs W A l) => back_any A ca l W (by omega) hA Sl)
  by_cases he : bE l = 0
  · obtain ⟨hol, hok, k1, k2, hap⟩ := backs (a := a) he
    have hlk := hok.len
    have Sk := shrt_mov hok
    have HK2 := Lib.hid (fun (A : Option Addr) (ca : Nat) (W : World) (hA : Vs W A (bR l)) => back_any A ca (bR l) W (by omega) hA Sk)
    have HA1 := Lib.hid (fun (A B : Option Addr) (ca cb : Nat) (W : World) (hA : Us W A a) (hB : Vs W B l) => apply_any A B ca cb a l W (by omega) (by omega) hA hB Sa Sl)
    have HS1 := Lib.hid (fun (A B : Option Addr) (ca cb : Nat) (W : World) (hA : Vs W A l) (hB : Vs W B l) => same_mvs A B ca cb l l W (by omega) hA hB true (by simp))
    rw [he] at HK1
    rw [k1, k2] at HK2
    by_cases hg : aE a l = 0
    · obtain ⟨hox, g1, g2⟩ := hap hg
      have hlx := hox.len
      have Sx := shrt_put hox
      have HA2 := Lib.hid (fun (A B : Option Addr) (ca cb : Nat) (W : World) (hA : Us W A (aR a l)) (hB : Vs W B (bR l)) => apply_any A B ca cb (aR a l) (bR l) W (by omega) (by omega) hA hB Sx Sk)
      have HS2 := Lib.hid (fun (A B : Option Addr) (ca cb : Nat) (W : World) (hA : Us W A a) (hB : Us W B a) => same_puts A B ca cb a a W (by omega) hA hB true (by simp))
      rw [hg] at HA1
      rw [g1, g2] at HA2
      generalize aR a l = X at *
      generalize bR l = K at *
      clear hol hok k1 k2 hap hlk Sk hox g1 g2 hlx Sx Sa Sl hla hll he hg
      go_enter Try.func7, Try.ntmps7
      go_wp2_with fail
      refine HPa.out.mono ?_
      rintro e w0 ⟨rfl, rfl⟩
      go_wp2_with fail
      refine HPl.out.mono ?_
      rintro e w0 ⟨rfl, rfl⟩
      clear HPa HPl
      go_wp2_with fail
      refine (HK1.out _ _ _ Hl_0.out).mono ?_
      rintro e w2 ⟨v2, rfl, ho, hb⟩
      have a_1 := Lib.hid (Ha_0.out.on hb)
      have l_1 := Lib.hid (Hl_0.out.on hb)
      have B_1 := Lib.hid (B_0.out.trans (hb.mono B_0.out.size))
      clear Ha_0 Hl_0 B_0
      obtain ⟨Ak, kk, rfl, hkk, hu⟩ := ho.lst
      have k_2 := Lib.hid (hu)
      clear ho hu
      clear hb
      go_wp2_with fail
      refine (HK2.out _ _ _ k_2.out).mono ?_
      rintro e w3 ⟨v3, rfl, ho, hb⟩
      have a_3 := Lib.hid (a_1.out.on hb)
      have l_3 := Lib.hid (l_1.out.on hb)
      have B_3 := Lib.hid (B_1.out.trans (hb.mono B_1.out.size))
      have k_3 := Lib.hid (k_2.out.on hb)
      clear a_1 l_1 B_1 k_2
      obtain ⟨Ac, kc, rfl, hkc, hu⟩ := ho.lst
      have c_4 := Lib.hid (hu)
      clear ho hu
      clear hb
      go_wp2_with fail
      refine (HS1.out _ _ _ _ _ c_4.out l_3.out).mono ?_
      rintro e w4 ⟨rfl, hb⟩
      clear c_4
      have a_5 := Lib.hid (a_3.out.on hb)
      have l_5 := Lib.hid (l_3.out.on hb)
      have B_5 := Lib.hid (B_3.out.trans (hb.mono B_3.out.size))
      have k_5 := Lib.hid (k_3.out.on hb)
      clear a_3 l_3 B_3 k_3
      clear hb
      go_wp2_with fail
      refine (HA1.out _ _ _ _ _ a_5.out l_5.out).mono ?_
      rintro e w5 ⟨v5, rfl, ho, hb⟩
      clear l_5
      have a_6 := Lib.hid (a_5.out.on hb)
      have B_6 := Lib.hid (B_5.out.trans (hb.mono B_5.out.size))
      have k_6 := Lib.hid (k_5.out.on hb)
      clear a_5 B_5 k_5
      obtain ⟨Ax, kx, rfl, hkx, hu⟩ := ho.lst
      have x_7 := Lib.hid (hu)
      clear ho hu
      clear hb
      go_wp2_with fail
      refine (HA2.out _ _ _ _ _ x_7.out k_6.out).mono ?_
      rintro e w6 ⟨v6, rfl, ho, hb⟩
      clear k_6
      have a_8 := Lib.hid (a_6.out.on hb)
      have B_8 := Lib.hid (B_6.out.trans (hb.mono B_6.out.size))
      have x_8 := Lib.hid (x_7.out.on hb)
      clear a_6 B_6 x_7
      obtain ⟨Ay, ky, rfl, hky, hu⟩ := ho.lst
      have y_9 := Lib.hid (hu)
      clear ho hu
      clear hb
      go_wp2_with fail
      refine (HS2.out _ _ _ _ _ y_9.out a_8.out).mono ?_
      rintro e w7 ⟨rfl, hb⟩
      have a_10 := Lib.hid (a_8.out.on hb)
      have B_10 := Lib.hid (B_8.out.trans (hb.mono B_8.out.size))
      have x_10 := Lib.hid (x_8.out.on hb)
      have y_10 := Lib.hid (y_9.out.on hb)
      clear a_8 B_8 x_8 y_9
      clear hb
      go_wp2_with fail
      refine (awake_any _).mono ?_
      rintro e w99 ⟨rfl, hb99⟩
      go_wp2_with fail
      go_ret
      exact ⟨rfl, B_10.out.trans (hb99.mono B_10.out.size)⟩
    · have q1 : (aE a l == 0) = false := by simpa using hg
      have q2 : (aE a l != 0) = true := by simpa using hg
      generalize aE a l = E at *
      generalize bR l = K at *
      clear hol hok k1 k2 hap hlk Sk Sa Sl hla hll he hg
      go_enter Try.func7, Try.ntmps7
      go_wp2_with fail
      refine HPa.out.mono ?_
      rintro e w0 ⟨rfl, rfl⟩
      go_wp2_with fail
      refine HPl.out.mono ?_
      rintro e w0 ⟨rfl, rfl⟩
      clear HPa HPl
      go_wp2_with fail
      refine (HK1.out _ _ _ Hl_0.out).mono ?_
      rintro e w2 ⟨v2, rfl, ho, hb⟩
      have a_1 := Lib.hid (Ha_0.out.on hb)
      have l_1 := Lib.hid (Hl_0.out.on hb)
      have B_1 := Lib.hid (B_0.out.trans (hb.mono B_0.out.size))
      clear Ha_0 Hl_0 B_0
      obtain ⟨Ak, kk, rfl, hkk, hu⟩ := ho.lst
      have k_2 := Lib.hid (hu)
      clear ho hu
      clear hb
      go_wp2_with fail
      refine (HK2.out _ _ _ k_2.out).mono ?_
      rintro e w3 ⟨v3, rfl, ho, hb⟩
      have a_3 := Lib.hid (a_1.out.on hb)
      have l_3 := Lib.hid (l_1.out.on hb)
      have B_3 := Lib.hid (B_1.out.trans (hb.mono B_1.out.size))
      have k_3 := Lib.hid (k_2.out.on hb)
      clear a_1 l_1 B_1 k_2
      obtain ⟨Ac, kc, rfl, hkc, hu⟩ := ho.lst
      have c_4 := Lib.hid (hu)
      clear ho hu
      clear hb
      go_wp2_with fail
      refine (HS1.out _ _ _ _ _ c_4.out l_3.out).mono ?_
      rintro e w4 ⟨rfl, hb⟩
      clear c_4
      have a_5 := Lib.hid (a_3.out.on hb)
      have l_5 := Lib.hid (l_3.out.on hb)
      have B_5 := Lib.hid (B_3.out.trans (hb.mono B_3.out.size))
      have k_5 := Lib.hid (k_3.out.on hb)
      clear a_3 l_3 B_3 k_3
      clear hb
      go_wp2_with fail
      refine (HA1.out _ _ _ _ _ a_5.out l_5.out).mono ?_
      rintro e w5 ⟨v5, rfl, ho, hb⟩
      have a_6 := Lib.hid (a_5.out.on hb)
      have l_6 := Lib.hid (l_5.out.on hb)
      have B_6 := Lib.hid (B_5.out.trans (hb.mono B_5.out.size))
      have k_6 := Lib.hid (k_5.out.on hb)
      clear a_5 l_5 B_5 k_5
      obtain ⟨Ax, kx, rfl, hkx, hu⟩ := ho.lst
      have x_7 := Lib.hid (hu)
      clear ho hu
      clear hb
      go_wp2_with fail
      refine (awake_any _).mono ?_
      rintro e w99 ⟨rfl, hb99⟩
      go_wp2_with fail
      go_ret
      exact ⟨rfl, B_6.out.trans (hb99.mono B_6.out.size)⟩
  · obtain ⟨k1, k2, k3⟩ := backs_not he
    have HK2 : Hid (∀ (A : Option Addr) (ca : Nat) (W : World), Vs W A [] → Calls Try.prog 13 #[.slice A 0 ca] W fun e w' => ∃ v, e = .returned (.tuple #[v, .int .i64 (bE [])]) ∧ OwnV w' W.heap.size v (bR []) ∧ Below W.heap.size W w') := Lib.hid (fun A ca W hA => back_any A ca [] W (by decide) hA (fun j hj => absurd hj (Nat.not_lt_zero j)))
    rw [k1, k2] at HK1
    generalize bE [] = E2 at *
    generalize bR [] = K2 at *
    clear he Sa Sl hla hll k1 k2 k3
    go_enter Try.func7, Try.ntmps7
    go_wp2_with fail
    refine HPa.out.mono ?_
    rintro e w0 ⟨rfl, rfl⟩
    go_wp2_with fail
    refine HPl.out.mono ?_
    rintro e w0 ⟨rfl, rfl⟩
    clear HPa HPl
    go_wp2_with fail
    refine (HK1.out _ _ _ Hl_0.out).mono ?_
    rintro e w2 ⟨v2, rfl, ho, hb⟩
    have a_1 := Lib.hid (Ha_0.out.on hb)
    have l_1 := Lib.hid (Hl_0.out.on hb)
    have B_1 := Lib.hid (B_0.out.trans (hb.mono B_0.out.size))
    clear Ha_0 Hl_0 B_0
    obtain ⟨Ak, kk, rfl, hkk, hu⟩ := ho.lst
    have k_2 := Lib.hid (hu)
    clear ho hu
    clear hb
    go_wp2_with fail
    refine (HK2.out _ _ _ k_2.out).mono ?_
    rintro e w3 ⟨v3, rfl, ho, hb⟩
    have a_3 := Lib.hid (a_1.out.on hb)
    have l_3 := Lib.hid (l_1.out.on hb)
    have B_3 := Lib.hid (B_1.out.trans (hb.mono B_1.out.size))
    have k_3 := Lib.hid (k_2.out.on hb)
    clear a_1 l_1 B_1 k_2
    obtain ⟨Ac, kc, rfl, hkc, hu⟩ := ho.lst
    have c_4 := Lib.hid (hu)
    clear ho hu
    clear hb
    go_wp2_with fail
    refine (awake_any _).mono ?_
    rintro e w99 ⟨rfl, hb99⟩
    go_wp2_with fail
    go_ret
    exact ⟨rfl, B_3.out.trans (hb99.mono B_3.out.size)⟩

theorem parOk : ∀ t ∈ (#[22, 23] : Array TypeId).toList, Try.prog.readableRec t = true ∧ t < Try.prog.types.size := by
  have hall : ([22, 23].all fun t => Try.prog.readableRec t && decide (t < Try.prog.types.size)) = true := by kernel_rfl
  intro t ht
  simpa using List.all_eq_true.1 hall t ht

set_option maxRecDepth 100000 in
/-- What the walk gives, for every argument. -/
theorem contract (H : Type) (enc : TypeId × Value → H) (W : World) (base : Nat) (args : Array Value) (ds gs : List (DataW H)) (before : List MemPlace)
    (hval : ∀ (j : Nat) t v, Try.f7.params[j]? = some t → args[j]? = some v → Value.okWide Try.prog W .any base t v)
    (hW : DataW.Whole enc Try.prog Try.f7.params.toList Rows.planBacksSpec.vars false W args.toList ds gs before) :
    Calls Try.prog 7 args W fun e W' => ∃ v, e = .returned v ∧ Rows.planBacksSpec.post enc Try.prog Try.f7 false true false false W args v W' := by
  have hW' := hW
  obtain ⟨p, q, hA0, hV, rfl, hfz, hnd⟩ := hW
  have hA : DataW.TrodAll enc Try.prog W 0 (fun _ => true) true Try.f7.params.toList args.toList ds p := hA0
  rw [Try.params7] at hA hval
  obtain ⟨v0, vs0, d0, ds0, p0, q0, hargs, rfl, rfl, h0, r0⟩ := trodAll_cons hA
  obtain ⟨v1, vs1, d1, ds1, p1, q1, rfl, rfl, rfl, h1, r1⟩ := trodAll_cons r0
  obtain ⟨rfl, rfl, rfl⟩ := trodAll_nil r1
  obtain rfl : args = #[v0, v1] := by cases args; simp_all
  obtain ⟨rfl, rfl⟩ := trodVars_none hV
  obtain ⟨A, ca, a0, rfl, hca, hma, ha, sa⟩ := open_puts (hval 0 22 v0 rfl rfl) h0
  obtain ⟨L, cl, l0, rfl, hcl, hml, hl, sl⟩ := open_V (hval 1 23 v1 rfl rfl) h1
  clear hA0
  refine (walk A ca a0 L cl l0 W hca hma ha sa hcl hml hl sl).mono fun e W' ⟨he, hb⟩ => ?_
  subst he
  exact ⟨_, rfl, law_post rfl (by rw [Try.params7]; exact parOk) rfl hW' rfl rfl rfl hb⟩

set_option maxRecDepth 100000 in
theorem lifted (os : Os) (started : os.Started) (H : Type) (enc : TypeId × Value → H) :
    ReturnsInHanded {} Try.checked os 7 .any (Rows.planBacksSpec.pre6 enc Try.prog Try.f7 Rows.planBacksRow.domain false) (Rows.planBacksSpec.post enc Try.prog Try.f7 false true false false) := by
  refine returnsInHanded_of_change (C := Try.checked) own started (by kernel_rfl) Try.func7
    (ChangeSpec.witness6 (enc := enc) (C := Try.checked) false ⟨#[], #[.slice none 0 0, .slice none 0 0], []⟩ 8 (by kernel_rfl) (by kernel_rfl) (by kernel_rfl) (by kernel_rfl)) ?_
  intro W base args ds gs before hval hW _ _
  exact contract H enc W base args ds gs before hval hW

/-- THE STATEMENT. -/
theorem said : Rows.PlanBacksSaid :=
  OpenClaim.holds_of_wide 7 Try.f7 rfl rfl rfl rfl rfl rfl rfl ⟨rfl, rfl, rfl, rfl, rfl⟩ rfl rfl rfl rfl rfl (by kernel_rfl) Try.func7 (by kernel_rfl)
    (of_decide_eq_true (by kernel_rfl)) (by unfold Func.isWrapper; first | (rw [if_pos (by decide +kernel)]; kernel_rfl) | (rw [if_neg (by decide +kernel)]; exact ⟨rfl, rfl⟩))
    (fun os started H enc _ => lifted os started H enc)
end Go.Proofs.Ytdbndkccgpmkbaa.lawBacks
