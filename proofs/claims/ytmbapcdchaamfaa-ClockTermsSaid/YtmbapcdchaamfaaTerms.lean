/-
  THE LAW ClockTerms: a guard is no less for a greater term, a smaller d, or a greater r; without d, and with an r above the term, it is the term.
  For every term, d, and r that a uint16 holds, and by how much more a uint8 does.
-/
import Derived.Test.YtmbapcdchaamfaaLaw
namespace Go.Proofs.Ytmbapcdchaamfaa.lawTerms
open Go.Sort Go.ChangeShapes Go.WideShapes Go.ChangeAt Go.RowKit Go.Joins Go.Proofs.Ytmbapcdchaamfaa.Pure

set_option maxRecDepth 100000 in
set_option maxHeartbeats 4000000 in
theorem walk (t d r b : Int) (w : World) (ht : 0 ≤ t ∧ t ≤ 65535) (hd : 0 ≤ d ∧ d ≤ 65535) (hr : 0 ≤ r ∧ r ≤ 65535) (hb : 0 ≤ b ∧ b ≤ 255) :
    Calls Try.prog 8 #[.agg #[.int .u16 t, .int .u16 d, .int .u16 r, .int .u8 b]] w fun e w' => e = .returned (.bool true) ∧ Below w.heap.size w w' := by
  have HG := Lib.hid (fun (t d r : Int) (W : World) (ht : 0 ≤ t ∧ t ≤ 1099511627776) (hb : bound d r = true) => guard_yes t d r W ht hb)
  have bnd : ∀ d r : Int, 0 ≤ d → d ≤ 100000 → 1 ≤ r → r ≤ 100000 → bound d r = true := by intro d r h1 h2 h3 h4; unfold bound; simp; omega
  have HX1 := Lib.hid (fun W => HG.out t d (1 + r) W (by omega) (bnd _ _ (by omega) (by omega) (by omega) (by omega)))
  have HX2 := Lib.hid (fun W => HG.out (t + b) d (1 + r) W (by omega) (bnd _ _ (by omega) (by omega) (by omega) (by omega)))
  have HX3 := Lib.hid (fun W => HG.out t (d + b) (1 + r) W (by omega) (bnd _ _ (by omega) (by omega) (by omega) (by omega)))
  have HX4 := Lib.hid (fun W => HG.out t d (1 + r + b) W (by omega) (bnd _ _ (by omega) (by omega) (by omega) (by omega)))
  have HX5 := Lib.hid (fun W => HG.out t 0 (t + 1) W (by omega) (bnd _ _ (by omega) (by omega) (by omega) (by omega)))
  have w1' : IntKind.i64.wrap t = t := IntWalk.i64_in _ (by omega)
  have w2' : IntKind.i64.wrap d = d := IntWalk.i64_in _ (by omega)
  have w3' : IntKind.i64.wrap r = r := IntWalk.i64_in _ (by omega)
  have w4' : IntKind.i64.wrap b = b := IntWalk.i64_in _ (by omega)
  have w5' : IntKind.i64.wrap (1 + r) = 1 + r := IntWalk.i64_in _ (by omega)
  clear HG bnd
  go_enter Try.func8, Try.ntmps8
  go_upto_region 1 with (fail)
  have c0 : (w.alloc (.cells #[.int .u16 t, .int .u16 d, .int .u16 r, .int .u8 b] 48)).cell? ⟨w.heap.size, 0, none⟩ = some (.int .u16 t) := by go_simp
  have c1 : (w.alloc (.cells #[.int .u16 t, .int .u16 d, .int .u16 r, .int .u8 b] 48)).cell? ⟨w.heap.size, 1, none⟩ = some (.int .u16 d) := by go_simp
  have c2 : (w.alloc (.cells #[.int .u16 t, .int .u16 d, .int .u16 r, .int .u8 b] 48)).cell? ⟨w.heap.size, 2, none⟩ = some (.int .u16 r) := by go_simp
  have c3 : (w.alloc (.cells #[.int .u16 t, .int .u16 d, .int .u16 r, .int .u8 b] 48)).cell? ⟨w.heap.size, 3, none⟩ = some (.int .u8 b) := by go_simp
  have HB0 : Hid (Below w.heap.size w (w.alloc (.cells #[.int .u16 t, .int .u16 d, .int .u16 r, .int .u8 b] 48))) := Lib.hid ((Below.refl _ _).alloc (Nat.le_refl _) _)
  generalize w.alloc (.cells #[.int .u16 t, .int .u16 d, .int .u16 r, .int .u8 b] 48) = w0 at *
  have C0 := fun d os => cell_regrown c0 d os
  have C1 := fun d os => cell_regrown c1 d os
  have C2 := fun d os => cell_regrown c2 d os
  have C3 := fun d os => cell_regrown c3 d os
  refine q_enter (by kernel_rfl) (by kernel_rfl) ?_
  iterate 17 (refine q_step ?_; intro K hK; go_simp; refine hK _ ?_; clear hK K)
  refine q_nil ?_
  intro wz hbz
  have HZ : Hid (Below w.heap.size w wz) := Lib.hid (HB0.out.trans (hbz.mono HB0.out.size))
  clear hbz C0 C1 C2 C3 c0 c1 c2 c3 w1' w2' w3' w4' w5'
  go_wp2_with fail
  refine (HX1.out _).mono ?_
  rintro e w1 ⟨g, rfl, hg, hb1⟩
  have HGg := Lib.hid hg
  have HB1 : Hid (Below w.heap.size w w1) := Lib.hid (HZ.out.trans (hb1.mono HZ.out.size))
  clear hg hb1 HX1
  go_wp2_with fail
  refine (HX2.out _).mono ?_
  rintro e w2 ⟨h, rfl, hh, hb2⟩
  have HGh := Lib.hid hh
  have HB2 : Hid (Below w.heap.size w w2) := Lib.hid (HB1.out.trans (hb2.mono HB1.out.size))
  clear hh hb2 HX2
  go_wp2_with fail
  refine (HX3.out _).mono ?_
  rintro e w3 ⟨i, rfl, hi, hb3⟩
  have HGi := Lib.hid hi
  have HB3 : Hid (Below w.heap.size w w3) := Lib.hid (HB2.out.trans (hb3.mono HB2.out.size))
  clear hi hb3 HX3
  go_wp2_with fail
  refine (HX4.out _).mono ?_
  rintro e w4 ⟨k, rfl, hk, hb4⟩
  have HGk := Lib.hid hk
  have HB4 : Hid (Below w.heap.size w w4) := Lib.hid (HB3.out.trans (hb4.mono HB3.out.size))
  clear hk hb4 HX4
  go_wp2_with fail
  refine (HX5.out _).mono ?_
  rintro e w5 ⟨m, rfl, hm, hb5⟩
  have HGm := Lib.hid hm
  have HB5 : Hid (Below w.heap.size w w5) := Lib.hid (HB4.out.trans (hb5.mono HB4.out.size))
  clear hm hb5 HX5
  have d1 : decide (g ≤ h) = true := by simpa using HGg.out.more (by omega) hb.1 HGh.out
  have d2 : decide (i ≤ g) = true := by simpa using HGg.out.wider (by omega) hb.1 HGi.out
  have d3 : decide (g ≤ k) = true := by simpa using HGg.out.rarer (by omega) hb.1 HGk.out
  have d4 : m = t := HGm.out.all
  subst d4
  go_wp2_with fail
  refine (awake_any _).mono ?_
  rintro e w6 ⟨rfl, hb6⟩
  have HB6 : Hid (Below w.heap.size w w6) := Lib.hid (HB5.out.trans (hb6.mono HB5.out.size))
  clear hb6
  go_wp2_with fail
  go_ret
  exact ⟨rfl, HB6.out⟩

/-! ### the statement -/
theorem parOk : ∀ t ∈ (#[48] : Array TypeId).toList, Try.prog.readableRec t = true ∧ t < Try.prog.types.size := by
  have hall : ([48].all fun t => Try.prog.readableRec t && decide (t < Try.prog.types.size)) = true := by kernel_rfl
  intro t ht
  simpa using List.all_eq_true.1 hall t ht

/-- What the walk gives, for every argument. -/
theorem contract (H : Type) (enc : TypeId × Value → H) (W : World) (base : Nat) (args : Array Value) (ds gs : List (DataW H)) (before : List MemPlace)
    (hval : ∀ (j : Nat) t v, Try.f8.params[j]? = some t → args[j]? = some v → Value.okWide Try.prog W .any base t v)
    (hW : DataW.Whole enc Try.prog Try.f8.params.toList Rows.clockTermsSpec.vars false W args.toList ds gs before) :
    Calls Try.prog 8 args W fun e W' => ∃ v, e = .returned v ∧ Rows.clockTermsSpec.post enc Try.prog Try.f8 false true false false W args v W' := by
  have hW' := hW
  obtain ⟨p, q, hA0, hV, rfl, hfz, hnd⟩ := hW
  have hA : DataW.TrodAll enc Try.prog W 0 (fun _ => true) true Try.f8.params.toList args.toList ds p := hA0
  rw [Try.params8] at hA hval
  obtain ⟨v0, vs0, d0, ds0, p0, q0, hargs, rfl, rfl, h0, r0⟩ := trodAll_cons hA
  obtain ⟨rfl, rfl, rfl⟩ := trodAll_nil r0
  obtain rfl : args = #[v0] := by cases args; simp_all
  obtain ⟨rfl, rfl⟩ := trodVars_none hV
  obtain ⟨t, d, r, b, rfl, ht, hd, hr, hb⟩ := open_term (hval 0 48 v0 rfl rfl) h0
  clear hA0
  refine (walk t d r b W ht hd hr hb).mono fun e W' ⟨he, hb⟩ => ?_
  subst he
  exact ⟨_, rfl, law_post rfl (by rw [Try.params8]; exact parOk) rfl hW' rfl rfl rfl hb⟩

set_option maxRecDepth 100000 in
theorem lifted (os : Os) (started : os.Started) (H : Type) (enc : TypeId × Value → H) :
    ReturnsInHanded {} Try.checked os 8 .any (Rows.clockTermsSpec.pre6 enc Try.prog Try.f8 Rows.clockTermsRow.domain false) (Rows.clockTermsSpec.post enc Try.prog Try.f8 false true false false) := by
  refine returnsInHanded_of_change (C := Try.checked) own started (by kernel_rfl) Try.func8
    (ChangeSpec.witness6 (enc := enc) (C := Try.checked) false ⟨#[], #[.agg #[.int .u16 0, .int .u16 0, .int .u16 0, .int .u8 0]], []⟩ 8 (by kernel_rfl) (by kernel_rfl) (by kernel_rfl) (by kernel_rfl)) ?_
  intro W base args ds gs before hval hW _ _
  exact contract H enc W base args ds gs before hval hW

/-- THE STATEMENT. -/
theorem said : Rows.ClockTermsSaid :=
  OpenClaim.holds_of_wide 8 Try.f8 rfl rfl rfl rfl rfl rfl rfl ⟨rfl, rfl, rfl, rfl, rfl⟩ rfl rfl rfl rfl rfl (by kernel_rfl) Try.func8 (by kernel_rfl)
    (of_decide_eq_true (by kernel_rfl)) (by unfold Func.isWrapper; first | (rw [if_pos (by decide +kernel)]; kernel_rfl) | (rw [if_neg (by decide +kernel)]; exact ⟨rfl, rfl⟩))
    (fun os started H enc _ => lifted os started H enc)
end Go.Proofs.Ytmbapcdchaamfaa.lawTerms
