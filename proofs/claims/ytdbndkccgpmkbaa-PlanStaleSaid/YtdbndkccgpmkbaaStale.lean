/-
  PlanStale: applied once more moves are refused, if there are any: the law returns true for every input.
-/
import Derived.Test.YtdbndkccgpmkbaaFl
namespace Go.Proofs.Ytdbndkccgpmkbaa.lawStale
open Go.ChangeMaps (open_string)
open Go.Sort Go.ChangeShapes Go.WideShapes Go.ChangeAt Go.RowKit Go.Joins Go.Proofs.Ytdbndkccgpmkbaa.Pure

set_option maxRecDepth 100000 in
set_option maxHeartbeats 4000000 in
theorem walk (A : Option Addr) (ca : Nat) (a0 : List Pu) (L : Option Addr) (cl : Nat) (l0 : List Mv) (w : World) (hca : a0.length ≤ ca) (hma : ca ≤ maxLen) (ha : Us w A a0) (sa : ShrtU a0) (hcl : l0.length ≤ cl) (hml : cl ≤ maxLen) (hl : Vs w L l0) (sl : FitV l0) :
    Calls Try.prog 6 #[.slice A a0.length ca, .slice L l0.length cl] w fun e w' => e = .returned (.bool true) ∧ Below w.heap.size w w' := by
  have HPa := Lib.hid (puts_any A ca a0 w hca hma ha)
  rw [← take_len a0] at HPa
  have Ha_0 := Lib.hid (ha.take 101)
  have Sa := (sa.take 101).map
  have hla : (a0.take 101).length ≤ 101 := by rw [take_len]; omega
  have HPl := Lib.hid (moves_any L cl l0 w hcl hml hl)
  rw [← take_len l0] at HPl
  have Hl_0 := Lib.hid (hl.take 101)
  have Sl := (sl.take 101).map
  have hll : (l0.take 101).length ≤ 101 := by rw [take_len]; omega
  generalize a0.take 101 = a at *
  generalize l0.take 101 = l at *
  generalize a0.length = na at *
  generalize l0.length = nl at *
  have B_0 := Lib.hid (Below.refl w.heap.size w)
  clear hca hma ha sa
  clear hcl hml hl sl
  have HA1 := Lib.hid (fun (A B : Option Addr) (ca cb : Nat) (W : World) (hA : Us W A a) (hB : Vs W B l) => apply_any A B ca cb a l W (by omega) (by omega) hA hB Sa Sl)
  by_cases he : aE a l = 0
  · obtain ⟨hox, hol, hn, hz⟩ := stale he
    have hlx := hox.len
    have Sx := shrt_put hox
    have HA2 := Lib.hid (fun (A B : Option Addr) (ca cb : Nat) (W : World) (hA : Us W A (aR a l)) (hB : Vs W B l) => apply_any A B ca cb (aR a l) l W (by omega) (by omega) hA hB Sx Sl)
    have HS := Lib.hid (fun (A B : Option Addr) (ca cb : Nat) (W : World) (hA : Us W A a) (hB : Us W B a) => same_puts A B ca cb a a W (by omega) hA hB true (by simp))
    rw [he] at HA1
    by_cases h0 : l = []
    · obtain ⟨x1, x2⟩ := hz h0
      rw [x2] at HA2
      rw [x1] at HA1 HA2
      have q1 : ((l.length : Int) == 0) = true := by rw [h0]; rfl
      have q1' : (l.length == 0) = true := by rw [h0]; rfl
      skip
      generalize aR a l = X at *
      clear hox hol hn hz h0 x1 x2 hlx Sx Sa Sl hla hll he
      go_enter Try.func6, Try.ntmps6
      go_wp2_with fail
      refine HPa.out.mono ?_
      rintro e w0 ⟨rfl, rfl⟩
      go_wp2_with fail
      refine HPl.out.mono ?_
      rintro e w0 ⟨rfl, rfl⟩
      clear HPa HPl
      go_wp2_with fail
      refine (HA1.out _ _ _ _ _ Ha_0.out Hl_0.out).mono ?_
      rintro e w2 ⟨v2, rfl, ho, hb⟩
      have a_1 := Lib.hid (Ha_0.out.on hb)
      have l_1 := Lib.hid (Hl_0.out.on hb)
      have B_1 := Lib.hid (B_0.out.trans (hb.mono B_0.out.size))
      clear Ha_0 Hl_0 B_0
      obtain ⟨Ax, kx, rfl, hkx, hu⟩ := ho.lst
      have x_2 := Lib.hid (hu)
      clear ho hu
      clear hb
      go_wp2_with fail
      refine (HA2.out _ _ _ _ _ x_2.out l_1.out).mono ?_
      rintro e w3 ⟨v3, rfl, ho, hb⟩
      have a_3 := Lib.hid (a_1.out.on hb)
      have l_3 := Lib.hid (l_1.out.on hb)
      have B_3 := Lib.hid (B_1.out.trans (hb.mono B_1.out.size))
      have x_3 := Lib.hid (x_2.out.on hb)
      clear a_1 l_1 B_1 x_2
      obtain ⟨Ay, ky, rfl, hky, hu⟩ := ho.lst
      have y_4 := Lib.hid (hu)
      clear ho hu
      clear hb
      go_wp2_with fail
      refine (HS.out _ _ _ _ _ x_3.out a_3.out).mono ?_
      rintro e w4 ⟨rfl, hb⟩
      have a_5 := Lib.hid (a_3.out.on hb)
      have l_5 := Lib.hid (l_3.out.on hb)
      have B_5 := Lib.hid (B_3.out.trans (hb.mono B_3.out.size))
      have x_5 := Lib.hid (x_3.out.on hb)
      have y_5 := Lib.hid (y_4.out.on hb)
      clear a_3 l_3 B_3 x_3 y_4
      clear hb
      go_wp2_with fail
      refine (awake_any _).mono ?_
      rintro e w99 ⟨rfl, hb99⟩
      go_wp2_with fail
      go_ret
      exact ⟨rfl, B_5.out.trans (hb99.mono B_5.out.size)⟩
    · obtain ⟨x1, x2⟩ := hn h0
      rw [x1, x2] at HA2
      have q0 : ¬ l.length = 0 := fun h => h0 (List.eq_nil_of_length_eq_zero h)
      have q1 : ((l.length : Int) == 0) = false := by rw [beq_eq_false_iff_ne]; omega
      have q1' : (l.length == 0) = false := by rw [beq_eq_false_iff_ne]; exact q0
      generalize aR a l = X at *
      clear hox hol hn hz h0 x1 x2 hlx Sx Sa Sl hla hll he q0 HS
      go_enter Try.func6, Try.ntmps6
      go_wp2_with fail
      refine HPa.out.mono ?_
      rintro e w0 ⟨rfl, rfl⟩
      go_wp2_with fail
      refine HPl.out.mono ?_
      rintro e w0 ⟨rfl, rfl⟩
      clear HPa HPl
      go_wp2_with fail
      refine (HA1.out _ _ _ _ _ Ha_0.out Hl_0.out).mono ?_
      rintro e w2 ⟨v2, rfl, ho, hb⟩
      have a_1 := Lib.hid (Ha_0.out.on hb)
      have l_1 := Lib.hid (Hl_0.out.on hb)
      have B_1 := Lib.hid (B_0.out.trans (hb.mono B_0.out.size))
      clear Ha_0 Hl_0 B_0
      obtain ⟨Ax, kx, rfl, hkx, hu⟩ := ho.lst
      have x_2 := Lib.hid (hu)
      clear ho hu
      clear hb
      go_wp2_with fail
      refine (HA2.out _ _ _ _ _ x_2.out l_1.out).mono ?_
      rintro e w3 ⟨v3, rfl, ho, hb⟩
      have a_3 := Lib.hid (a_1.out.on hb)
      have l_3 := Lib.hid (l_1.out.on hb)
      have B_3 := Lib.hid (B_1.out.trans (hb.mono B_1.out.size))
      have x_3 := Lib.hid (x_2.out.on hb)
      clear a_1 l_1 B_1 x_2
      obtain ⟨Ay, ky, rfl, hky, hu⟩ := ho.lst
      have y_4 := Lib.hid (hu)
      clear ho hu
      clear hb
      go_wp2_with fail
      refine (awake_any _).mono ?_
      rintro e w99 ⟨rfl, hb99⟩
      go_wp2_with fail
      go_ret
      exact ⟨rfl, B_3.out.trans (hb99.mono B_3.out.size)⟩
  · rw [aR_of he] at HA1
    have q1 : (aE a l == 0) = false := by simpa using he
    have q2 : (aE a l != 0) = true := by simpa using he
    generalize aE a l = E at *
    clear he Sa Sl hla hll
    go_enter Try.func6, Try.ntmps6
    go_wp2_with fail
    refine HPa.out.mono ?_
    rintro e w0 ⟨rfl, rfl⟩
    go_wp2_with fail
    refine HPl.out.mono ?_
    rintro e w0 ⟨rfl, rfl⟩
    clear HPa HPl
    go_wp2_with fail
    refine (HA1.out _ _ _ _ _ Ha_0.out Hl_0.out).mono ?_
    rintro e w2 ⟨v2, rfl, ho, hb⟩
    have a_1 := Lib.hid (Ha_0.out.on hb)
    have l_1 := Lib.hid (Hl_0.out.on hb)
    have B_1 := Lib.hid (B_0.out.trans (hb.mono B_0.out.size))
    clear Ha_0 Hl_0 B_0
    obtain ⟨Ax, kx, rfl, hkx, hu⟩ := ho.lst
    have x_2 := Lib.hid (hu)
    clear ho hu
    clear hb
    go_wp2_with fail
    refine (awake_any _).mono ?_
    rintro e w99 ⟨rfl, hb99⟩
    go_wp2_with fail
    go_ret
    exact ⟨rfl, B_1.out.trans (hb99.mono B_1.out.size)⟩

theorem parOk : ∀ t ∈ (#[22, 23] : Array TypeId).toList, Try.prog.readableRec t = true ∧ t < Try.prog.types.size := by
  have hall : ([22, 23].all fun t => Try.prog.readableRec t && decide (t < Try.prog.types.size)) = true := by kernel_rfl
  intro t ht
  simpa using List.all_eq_true.1 hall t ht

set_option maxRecDepth 100000 in
/-- What the walk gives, for every argument. -/
theorem contract (H : Type) (enc : TypeId × Value → H) (W : World) (base : Nat) (args : Array Value) (ds gs : List (DataW H)) (before : List MemPlace)
    (hval : ∀ (j : Nat) t v, Try.f6.params[j]? = some t → args[j]? = some v → Value.okWide Try.prog W .any base t v)
    (hW : DataW.Whole enc Try.prog Try.f6.params.toList Rows.planStaleSpec.vars false W args.toList ds gs before) :
    Calls Try.prog 6 args W fun e W' => ∃ v, e = .returned v ∧ Rows.planStaleSpec.post enc Try.prog Try.f6 false true false false W args v W' := by
  have hW' := hW
  obtain ⟨p, q, hA0, hV, rfl, hfz, hnd⟩ := hW
  have hA : DataW.TrodAll enc Try.prog W 0 (fun _ => true) true Try.f6.params.toList args.toList ds p := hA0
  rw [Try.params6] at hA hval
  obtain ⟨v0, vs0, d0, ds0, p0, q0, hargs, rfl, rfl, h0, r0⟩ := trodAll_cons hA
  obtain ⟨v1, vs1, d1, ds1, p1, q1, rfl, rfl, rfl, h1, r1⟩ := trodAll_cons r0
  obtain ⟨rfl, rfl, rfl⟩ := trodAll_nil r1
  obtain rfl : args = #[v0, v1] := by cases args; simp_all
  obtain ⟨rfl, rfl⟩ := trodVars_none hV
  obtain ⟨A, ca, a0, rfl, hca, hma, ha, sa⟩ := open_puts (hval 0 22 v0 rfl rfl) h0
  obtain ⟨L, cl, l0, rfl, hcl, hml, hl, sl⟩ := open_V (hval 1 23 v1 rfl rfl) h1
  clear hA0
  refine (walk A ca a0 L cl l0 W hca hma ha sa hcl hml hl sl).mono fun e W' ⟨he, hb⟩ => ?_
  subst he
  exact ⟨_, rfl, law_post rfl (by rw [Try.params6]; exact parOk) rfl hW' rfl rfl rfl hb⟩

set_option maxRecDepth 100000 in
theorem lifted (os : Os) (started : os.Started) (H : Type) (enc : TypeId × Value → H) :
    ReturnsInHanded {} Try.checked os 6 .any (Rows.planStaleSpec.pre6 enc Try.prog Try.f6 Rows.planStaleRow.domain false) (Rows.planStaleSpec.post enc Try.prog Try.f6 false true false false) := by
  refine returnsInHanded_of_change (C := Try.checked) own started (by kernel_rfl) Try.func6
    (ChangeSpec.witness6 (enc := enc) (C := Try.checked) false ⟨#[], #[.slice none 0 0, .slice none 0 0], []⟩ 8 (by kernel_rfl) (by kernel_rfl) (by kernel_rfl) (by kernel_rfl)) ?_
  intro W base args ds gs before hval hW _ _
  exact contract H enc W base args ds gs before hval hW

/-- THE STATEMENT. -/
theorem said : Rows.PlanStaleSaid :=
  OpenClaim.holds_of_wide 6 Try.f6 rfl rfl rfl rfl rfl rfl rfl ⟨rfl, rfl, rfl, rfl, rfl⟩ rfl rfl rfl rfl rfl (by kernel_rfl) Try.func6 (by kernel_rfl)
    (of_decide_eq_true (by kernel_rfl)) (by unfold Func.isWrapper; first | (rw [if_pos (by decide +kernel)]; kernel_rfl) | (rw [if_neg (by decide +kernel)]; exact ⟨rfl, rfl⟩))
    (fun os started H enc _ => lifted os started H enc)
end Go.Proofs.Ytdbndkccgpmkbaa.lawStale
