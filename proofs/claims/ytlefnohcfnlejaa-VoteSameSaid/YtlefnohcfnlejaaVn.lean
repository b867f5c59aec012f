/-
  Whole contracts.
-/
import Derived.Test.YtlefnohcfnlejaaVe
namespace Go.Proofs.Ytlefnohcfnlejaa
open Go.Sort Go.RowKit Go.Proofs.Ytlefnohcfnlejaa.Pure

open Classical in
/-- What a vote is that begins again, or why not. -/
noncomputable def rsE (x : Tm) (to_ n : Int) : Int := if holdF x = 0 ∨ toB to_ = false ∨ momB n = false then 1 else 0
noncomputable def rsR (x : Tm) (e to_ n : Int) : Vt := if rsE x to_ n = 0 then resV x.t e to_ n else ⟨0, 0, 0, 0⟩
open Classical in
/-- What is answered, or why not. -/
noncomputable def akE (x : Tm) (v : Vt) (f n : Int) : Int := if holdF x = 0 ∨ mayV v = false ∨ nodeV f = false ∨ momB n = false then 1 else 0
noncomputable def akB (x : Tm) (v : Vt) (f e n : Int) : Bool := (akE x v f n == 0) && grB v f e n
noncomputable def akR (x : Tm) (v : Vt) (f e n : Int) : Vt := if akE x v f n = 0 then askV x.t v f e n else v
theorem hold_gd {x : Tm} (h1 : 1 ≤ x.t) (h2 : x.t ≤ 1000000) : holdF x = if gdE x = 0 then gdR x else 0 := by
  unfold holdF tmB gdE gdR gdB
  cases hb : bound x.d x.r <;> simp [h1, h2, show (0 : Int) ≤ x.t by omega, show x.t ≤ 1099511627776 by omega]
set_option maxRecDepth 100000 in
set_option maxHeartbeats 2000000 in
theorem hold_any (x : Tm) (w : World) : Calls Try.prog 13 #[.agg #[.int .i64 x.t, .int .i64 x.d, .int .i64 x.r]] w fun e w' => e = .returned (.tuple #[.int .i64 (holdF x), .int .i64 (holdE x)]) ∧ Below w.heap.size w w' := by
  have HN := Lib.hid (fun (h : tmB x = false) => holdF_no h)
  have HG := Lib.hid (fun h1 h2 => hold_gd (x := x) h1 h2)
  have HZ := Lib.hid (holdF_nonneg x)
  have HE : Hid (holdE x = if holdF x = 0 then 1 else 0) := Lib.hid rfl
  have CG := Lib.hid (fun W => guard_any x W)
  have HTM := Lib.hid (tmB_iff x)
  obtain ⟨R, hR⟩ : ∃ R, R = holdF x := ⟨_, rfl⟩
  rw [← hR] at HN HG HZ HE ⊢
  clear hR
  generalize holdE x = E at *
  generalize gdR x = G at *
  generalize gdE x = Eg at *
  obtain ⟨t, d, r⟩ := x
  simp only at HN HG HZ HE CG HTM ⊢
  have HB1 : Hid (Below w.heap.size w (w.alloc (.cells #[.int .i64 t, .int .i64 d, .int .i64 r] 23))) := Lib.hid ((Below.refl _ _).alloc (Nat.le_refl _) _)
  have HT1 := Lib.hid (TmA.new w ⟨t, d, r⟩ 23)
  by_cases h1 : t < 1
  · have HR : Hid (R = 0) := Lib.hid (HN.out (by
      cases hb : tmB ⟨t, d, r⟩ with
      | false => rfl
      | true => have := HTM.out.1 hb; omega))
    have HE1 : Hid (E = 1) := Lib.hid (HE.out.trans (by rw [if_pos HR.out]))
    have e1 : decide (t < 1) = true := decide_eq_true h1
    clear HN HG HZ HE CG HTM h1
    go_enter Try.func13, Try.ntmps13
    go_upto_region 1 with (fail)
    generalize w.alloc (.cells #[.int .i64 t, .int .i64 d, .int .i64 r] 23) = w1 at *
    obtain ⟨a0, a1, a2⟩ := HT1.out
    simp only at a0 a1 a2
    go_wp2_with fail
    go_ret2
    exact ⟨by rw [HR.out, HE1.out]; rfl, HB1.out⟩
  have e1 : decide (t < 1) = false := decide_eq_false h1
  by_cases h2 : 1000000 < t
  · have HR : Hid (R = 0) := Lib.hid (HN.out (by
      cases hb : tmB ⟨t, d, r⟩ with
      | false => rfl
      | true => have := HTM.out.1 hb; omega))
    have HE1 : Hid (E = 1) := Lib.hid (HE.out.trans (by rw [if_pos HR.out]))
    have e2 : decide (1000000 < t) = true := decide_eq_true h2
    clear HN HG HZ HE CG HTM h1 h2
    go_enter Try.func13, Try.ntmps13
    go_upto_region 1 with (fail)
    generalize w.alloc (.cells #[.int .i64 t, .int .i64 d, .int .i64 r] 23) = w1 at *
    obtain ⟨a0, a1, a2⟩ := HT1.out
    simp only at a0 a1 a2
    go_wp2_with fail
    go_ret2
    exact ⟨by rw [HR.out, HE1.out]; rfl, HB1.out⟩
  have e2 : decide (1000000 < t) = false := decide_eq_false h2
  have HG2 := Lib.hid (HG.out (by omega) (by omega))
  clear HG HN HTM h1 h2
  by_cases h3 : Eg = 0
  · have HG3 : Hid (R = G) := Lib.hid (HG2.out.trans (by rw [if_pos h3]))
    have e3 : (Eg != 0) = false := by simp [h3]
    by_cases h4 : G < 1
    · have HR : Hid (R = 0) := Lib.hid (by have := HZ.out; have := HG3.out; omega)
      have HE1 : Hid (E = 1) := Lib.hid (HE.out.trans (by rw [if_pos HR.out]))
      have e4 : decide (G < 1) = true := decide_eq_true h4
      clear HE HZ HG2 HG3 h3 h4
      go_enter Try.func13, Try.ntmps13
      go_upto_region 1 with (fail)
      generalize w.alloc (.cells #[.int .i64 t, .int .i64 d, .int .i64 r] 23) = w1 at *
      obtain ⟨a0, a1, a2⟩ := HT1.out
      simp only at a0 a1 a2
      go_wp2_with fail
      refine (CG.out _).mono ?_
      rintro e w2 ⟨rfl, hb⟩
      have HB2 := Lib.hid (HB1.out.trans (hb.mono HB1.out.size))
      clear hb
      go_wp2_with fail
      go_ret2
      exact ⟨by rw [HR.out, HE1.out]; rfl, HB2.out⟩
    · have HE1 : Hid (E = 0) := Lib.hid (HE.out.trans (by rw [if_neg (by have := HG3.out; omega)]))
      have e4 : decide (G < 1) = false := decide_eq_false h4
      clear HE HZ HG2 h3 h4
      go_enter Try.func13, Try.ntmps13
      go_upto_region 1 with (fail)
      generalize w.alloc (.cells #[.int .i64 t, .int .i64 d, .int .i64 r] 23) = w1 at *
      obtain ⟨a0, a1, a2⟩ := HT1.out
      simp only at a0 a1 a2
      go_wp2_with fail
      refine (CG.out _).mono ?_
      rintro e w2 ⟨rfl, hb⟩
      have HB2 := Lib.hid (HB1.out.trans (hb.mono HB1.out.size))
      clear hb
      go_wp2_with fail
      go_ret2
      exact ⟨by rw [HG3.out, HE1.out]; rfl, HB2.out⟩
  · have HR : Hid (R = 0) := Lib.hid (HG2.out.trans (by rw [if_neg h3]))
    have HE1 : Hid (E = 1) := Lib.hid (HE.out.trans (by rw [if_pos HR.out]))
    have e3 : (Eg != 0) = true := by simp [h3]
    clear HE HZ HG2 h3
    go_enter Try.func13, Try.ntmps13
    go_upto_region 1 with (fail)
    generalize w.alloc (.cells #[.int .i64 t, .int .i64 d, .int .i64 r] 23) = w1 at *
    obtain ⟨a0, a1, a2⟩ := HT1.out
    simp only at a0 a1 a2
    go_wp2_with fail
    refine (CG.out _).mono ?_
    rintro e w2 ⟨rfl, hb⟩
    have HB2 := Lib.hid (HB1.out.trans (hb.mono HB1.out.size))
    clear hb
    go_wp2_with fail
    go_ret2
    exact ⟨by rw [HR.out, HE1.out]; rfl, HB2.out⟩
set_option maxRecDepth 100000 in
set_option maxHeartbeats 2000000 in
theorem may_any (x : Tm) (w : World) : Calls Try.prog 20 #[.agg #[.int .i64 x.t, .int .i64 x.d, .int .i64 x.r]] w fun e w' => e = .returned (.int .i64 (holdE x)) ∧ Below w.heap.size w w' := by
  have CG := Lib.hid (fun W => hold_any x W)
  generalize holdE x = E at *
  generalize holdF x = R at *
  obtain ⟨t, d, r⟩ := x
  simp only at CG ⊢
  have HB1 : Hid (Below w.heap.size w (w.alloc (.cells #[.int .i64 t, .int .i64 d, .int .i64 r] 23))) := Lib.hid ((Below.refl _ _).alloc (Nat.le_refl _) _)
  have HT1 := Lib.hid (TmA.new w ⟨t, d, r⟩ 23)
  go_enter Try.func20, Try.ntmps20
  go_upto_region 1 with (fail)
  generalize w.alloc (.cells #[.int .i64 t, .int .i64 d, .int .i64 r] 23) = w1 at *
  obtain ⟨a0, a1, a2⟩ := HT1.out
  simp only at a0 a1 a2
  go_wp2_with fail
  refine (CG.out _).mono ?_
  rintro e w2 ⟨rfl, hb⟩
  have HB2 := Lib.hid (HB1.out.trans (hb.mono HB1.out.size))
  clear hb
  go_wp2_with fail
  go_ret
  exact ⟨rfl, HB2.out⟩
def ckE (v : Vt) : Int := if mayV v = true then 0 else 1
set_option maxRecDepth 100000 in
set_option maxHeartbeats 2000000 in
theorem check_any (v : Vt) (w : World) : Calls Try.prog 21 #[.agg #[.int .u64 v.e, .int .i64 v.t, .int .i64 v.u, .int .i64 v.w]] w fun e w' => e = .returned (.int .i64 (ckE v)) ∧ Below w.heap.size w w' := by
  have HP := Lib.hid (mayV_parts v)
  have HE : Hid (ckE v = if mayV v = true then 0 else 1) := Lib.hid rfl
  have C0 := Lib.hid (fun W => mayPromise_any v.t W)
  have C1 := Lib.hid (fun W => mayStand_any v.u W)
  have C2 := Lib.hid (fun W => mayStand_any v.w W)
  generalize ckE v = E at *
  generalize mayV v = m at *
  generalize toB v.t = q0 at *
  generalize staB v.u = q1 at *
  generalize staB v.w = q2 at *
  obtain ⟨e, t, u, y⟩ := v
  simp only at C0 C1 C2 ⊢
  have HB1 : Hid (Below w.heap.size w (w.alloc (.cells #[.int .u64 e, .int .i64 t, .int .i64 u, .int .i64 y] 38))) := Lib.hid ((Below.refl _ _).alloc (Nat.le_refl _) _)
  have HV1 := Lib.hid (VtA.new w ⟨e, t, u, y⟩ 38)
  cases q0 with
  | false =>
    have HEV : Hid (E = 1) := Lib.hid (HE.out.trans (by rw [HP.out]; rfl))
    clear HE HP
    go_enter Try.func21, Try.ntmps21
    go_upto_region 1 with (fail)
    generalize w.alloc (.cells #[.int .u64 e, .int .i64 t, .int .i64 u, .int .i64 y] 38) = w1 at *
    obtain ⟨a0, a1, a2, a3⟩ := HV1.out
    simp only at a0 a1 a2 a3
    go_wp2_with fail
    refine (C0.out _).mono ?_
    rintro r2 w2 ⟨rfl, rfl⟩
    go_wp2_with fail
    go_ret
    exact ⟨by rw [HEV.out]; rfl, HB1.out⟩
  | true =>
    cases q1 with
    | false =>
      have HEV : Hid (E = 1) := Lib.hid (HE.out.trans (by rw [HP.out]; rfl))
      clear HE HP
      go_enter Try.func21, Try.ntmps21
      go_upto_region 1 with (fail)
      generalize w.alloc (.cells #[.int .u64 e, .int .i64 t, .int .i64 u, .int .i64 y] 38) = w1 at *
      obtain ⟨a0, a1, a2, a3⟩ := HV1.out
      simp only at a0 a1 a2 a3
      go_wp2_with fail
      refine (C0.out _).mono ?_
      rintro r2 w2 ⟨rfl, rfl⟩
      go_wp2_with fail
      refine (C1.out _).mono ?_
      rintro r2 w2 ⟨rfl, rfl⟩
      go_wp2_with fail
      go_ret
      exact ⟨by rw [HEV.out]; rfl, HB1.out⟩
    | true =>
      cases q2 with
      | false =>
        have HEV : Hid (E = 1) := Lib.hid (HE.out.trans (by rw [HP.out]; rfl))
        clear HE HP
        go_enter Try.func21, Try.ntmps21
        go_upto_region 1 with (fail)
        generalize w.alloc (.cells #[.int .u64 e, .int .i64 t, .int .i64 u, .int .i64 y] 38) = w1 at *
        obtain ⟨a0, a1, a2, a3⟩ := HV1.out
        simp only at a0 a1 a2 a3
        go_wp2_with fail
        refine (C0.out _).mono ?_
        rintro r2 w2 ⟨rfl, rfl⟩
        go_wp2_with fail
        refine (C1.out _).mono ?_
        rintro r2 w2 ⟨rfl, rfl⟩
        go_wp2_with fail
        refine (C2.out _).mono ?_
        rintro r2 w2 ⟨rfl, rfl⟩
        go_wp2_with fail
        go_ret
        exact ⟨by rw [HEV.out]; rfl, HB1.out⟩
      | true =>
        have HEV : Hid (E = 0) := Lib.hid (HE.out.trans (by rw [HP.out]; rfl))
        clear HE HP
        go_enter Try.func21, Try.ntmps21
        go_upto_region 1 with (fail)
        generalize w.alloc (.cells #[.int .u64 e, .int .i64 t, .int .i64 u, .int .i64 y] 38) = w1 at *
        obtain ⟨a0, a1, a2, a3⟩ := HV1.out
        simp only at a0 a1 a2 a3
        go_wp2_with fail
        refine (C0.out _).mono ?_
        rintro r2 w2 ⟨rfl, rfl⟩
        go_wp2_with fail
        refine (C1.out _).mono ?_
        rintro r2 w2 ⟨rfl, rfl⟩
        go_wp2_with fail
        refine (C2.out _).mono ?_
        rintro r2 w2 ⟨rfl, rfl⟩
        go_wp2_with fail
        go_ret
        exact ⟨by rw [HEV.out]; rfl, HB1.out⟩
set_option maxRecDepth 100000 in
set_option maxHeartbeats 2000000 in
theorem new_any (w : World) : Calls Try.prog 18 #[] w fun e w' => e = .returned (.agg #[.int .u64 0, .int .i64 (-1), .int .i64 0, .int .i64 0]) ∧ Below w.heap.size w w' := by
  have HB1 : Hid (Below w.heap.size w (w.alloc (.cells #[.int .u64 0, .int .i64 0, .int .i64 0, .int .i64 0] 38))) := Lib.hid ((Below.refl _ _).alloc (Nat.le_refl _) _)
  have HV1 := Lib.hid (VtW.new w ⟨0, 0, 0, 0⟩ 38)
  go_enter Try.func18, Try.ntmps18
  go_upto_region 1 with (fail)
  generalize w.alloc (.cells #[.int .u64 0, .int .i64 0, .int .i64 0, .int .i64 0] 38) = w1 at *
  obtain ⟨⟨a0, a1, a2, a3⟩, xf⟩ := HV1.out
  simp only at a0 a1 a2 a3
  have HB2 := Lib.hid (below_set4 HB1.out (Nat.le_refl _) (.int .u64 0) (.int .i64 (-1)) (.int .i64 0) (.int .i64 0))
  have HV2 := Lib.hid (HV1.out.set ⟨0, -1, 0, 0⟩)
  simp only at HV2
  go_wp2_with fail
  obtain ⟨⟨r0, r1, r2, r3⟩, _⟩ := HV2.out
  simp only at r0 r1 r2 r3
  exact bodyPost_ret (v := .agg #[.int .u64 0, .int .i64 (-1), .int .i64 0, .int .i64 0]) (by simp [results, Try.results18, go_sem, r0, r1, r2, r3]) rfl ⟨rfl, HB2.out⟩
end Go.Proofs.Ytlefnohcfnlejaa
