/-
  THE LAW ClockGuards: a term's guard fits, and one more does not, or it is refused; it is no more than the term.
  For every term, d, and r that an int64 holds.
-/
import Derived.Test.YtmbapcdchaamfaaLaw
namespace Go.Proofs.Ytmbapcdchaamfaa.lawGuards
open Go.ChangeShapes Go.WideShapes Go.ChangeAt Go.RowKit Go.Joins Go.Proofs.Ytmbapcdchaamfaa.Pure

set_option maxRecDepth 100000 in
set_option maxHeartbeats 2000000 in
theorem walk (t d r : Int) (w : World) :
    Calls Try.prog 4 #[.int .i64 t, .int .i64 d, .int .i64 r] w fun e w' => e = .returned (.bool true) ∧ Below w.heap.size w w' := by
  have HBD := Lib.hid (fun W => bound_any d r W)
  by_cases h1 : t < 0
  · have e1 : decide (t < 0) = true := by simpa using h1
    have HGB := Lib.hid (guard_bad t d r w (.inl h1))
    go_enter Try.func4, Try.ntmps4
    go_wp2_with fail
    refine HGB.out.mono ?_
    rintro e w1 ⟨rfl, hb1⟩
    have HB1 := Lib.hid hb1
    clear hb1
    go_wp2_with fail
    refine (awake_any _).mono ?_
    rintro e w3 ⟨rfl, hb3⟩
    have HB3 : Hid (Below w.heap.size w w3) := Lib.hid (HB1.out.trans (hb3.mono HB1.out.size))
    clear hb3
    go_wp2_with fail
    go_ret
    exact ⟨rfl, HB3.out⟩
  have e1 : decide (t < 0) = false := by simpa using h1
  by_cases h2 : 1099511627776 < t
  · have e2 : decide (1099511627776 < t) = true := by simpa using h2
    have HGB := Lib.hid (guard_bad t d r w (.inr (.inl h2)))
    go_enter Try.func4, Try.ntmps4
    go_wp2_with fail
    refine HGB.out.mono ?_
    rintro e w1 ⟨rfl, hb1⟩
    have HB1 := Lib.hid hb1
    clear hb1
    go_wp2_with fail
    refine (awake_any _).mono ?_
    rintro e w3 ⟨rfl, hb3⟩
    have HB3 : Hid (Below w.heap.size w w3) := Lib.hid (HB1.out.trans (hb3.mono HB1.out.size))
    clear hb3
    go_wp2_with fail
    go_ret
    exact ⟨rfl, HB3.out⟩
  have e2 : decide (1099511627776 < t) = false := by simpa using h2
  rcases hbd : bound d r with _ | _
  · have HGB := Lib.hid (guard_bad t d r w (.inr (.inr hbd)))
    rw [hbd] at HBD
    clear hbd
    go_enter Try.func4, Try.ntmps4
    go_wp2_with fail
    refine HGB.out.mono ?_
    rintro e w1 ⟨rfl, hb1⟩
    have HB1 := Lib.hid hb1
    clear hb1
    go_wp2_with fail
    refine (HBD.out _).mono ?_
    rintro e w2 ⟨rfl, rfl⟩
    go_wp2_with fail
    refine (awake_any _).mono ?_
    rintro e w3 ⟨rfl, hb3⟩
    have HB3 : Hid (Below w.heap.size w w3) := Lib.hid (HB1.out.trans (hb3.mono HB1.out.size))
    clear hb3
    go_wp2_with fail
    go_ret
    exact ⟨rfl, HB3.out⟩
  · have hb' : 0 ≤ d ∧ d ≤ 1099511627776 ∧ 1 ≤ r ∧ r ≤ 1099511627776 := by unfold bound at hbd; simpa using hbd
    have HGY := Lib.hid (guard_yes t d r w (by omega) hbd)
    have HFA := Lib.hid (fun (g : Int) (hg : Guards g t d r) W => fits_any g t d r W (by have h1 := hg.1; have h2 := hg.2.1; omega) ⟨hb'.1, hb'.2.1⟩ ⟨hb'.2.2.1, hb'.2.2.2⟩ true (by simpa using hg.2.2.1))
    have HFB := Lib.hid (fun (g : Int) (hg : Guards g t d r) W => fits_any (g + 1) t d r W (by have h1 := hg.1; have h2 := hg.2.1; omega) ⟨hb'.1, hb'.2.1⟩ ⟨hb'.2.2.1, hb'.2.2.2⟩ false (by
      have h1 := hg.1
      have h4 := hg.2.2.2
      rw [show g + 1 - 1 = g by omega]
      simp only [Bool.false_eq_true, false_iff, not_or]
      exact ⟨by omega, h4⟩))
    rw [hbd] at HBD
    clear hbd
    go_enter Try.func4, Try.ntmps4
    go_wp2_with fail
    refine HGY.out.mono ?_
    rintro e w1 ⟨g, rfl, hg, hb1⟩
    have HB1 := Lib.hid hb1
    have HFA1 := Lib.hid (HFA.out g hg)
    have HFB1 := Lib.hid (HFB.out g hg)
    have d1 : decide (0 ≤ g) = true := by simpa using hg.1
    have d2 : decide (g ≤ t) = true := by simpa using hg.2.1
    have g0 := hg.1
    have g1 := hg.2.1
    clear hb1 hg HGY HFA HFB
    go_wp2_with fail
    refine (HBD.out _).mono ?_
    rintro e w2 ⟨rfl, rfl⟩
    go_wp2_with fail
    refine (HFA1.out _).mono ?_
    rintro e w2 ⟨rfl, rfl⟩
    go_wp2_with fail
    refine (HFB1.out _).mono ?_
    rintro e w2 ⟨rfl, rfl⟩
    go_wp2_with fail
    refine (awake_any _).mono ?_
    rintro e w3 ⟨rfl, hb3⟩
    have HB3 : Hid (Below w.heap.size w w3) := Lib.hid (HB1.out.trans (hb3.mono HB1.out.size))
    clear hb3
    go_wp2_with fail
    go_ret
    exact ⟨rfl, HB3.out⟩

/-! ### the statement -/
theorem parOk : ∀ t ∈ (#[2, 2, 2] : Array TypeId).toList, Try.prog.readableRec t = true ∧ t < Try.prog.types.size := by
  have hall : ([2, 2, 2].all fun t => Try.prog.readableRec t && decide (t < Try.prog.types.size)) = true := by kernel_rfl
  intro t ht
  simpa using List.all_eq_true.1 hall t ht

/-- What the walk gives, for every argument. -/
theorem contract (H : Type) (enc : TypeId × Value → H) (W : World) (base : Nat) (args : Array Value) (ds gs : List (DataW H)) (before : List MemPlace)
    (hval : ∀ (j : Nat) t v, Try.f4.params[j]? = some t → args[j]? = some v → Value.okWide Try.prog W .any base t v)
    (hW : DataW.Whole enc Try.prog Try.f4.params.toList Rows.clockGuardsSpec.vars false W args.toList ds gs before) :
    Calls Try.prog 4 args W fun e W' => ∃ v, e = .returned v ∧ Rows.clockGuardsSpec.post enc Try.prog Try.f4 false true false false W args v W' := by
  have hW' := hW
  obtain ⟨p, q, hA0, hV, rfl, hfz, hnd⟩ := hW
  have hA : DataW.TrodAll enc Try.prog W 0 (fun _ => true) true Try.f4.params.toList args.toList ds p := hA0
  rw [Try.params4] at hA hval
  obtain ⟨v0, vs0, d0, ds0, p0, q0, hargs, rfl, rfl, h0, r0⟩ := trodAll_cons hA
  obtain ⟨v1, vs1, d1, ds1, p1, q1, rfl, rfl, rfl, h1, r1⟩ := trodAll_cons r0
  obtain ⟨v2, vs2, d2, ds2, p2, q2, rfl, rfl, rfl, h2, r2⟩ := trodAll_cons r1
  obtain ⟨rfl, rfl, rfl⟩ := trodAll_nil r2
  obtain rfl : args = #[v0, v1, v2] := by cases args; simp_all
  obtain ⟨rfl, rfl⟩ := trodVars_none hV
  obtain ⟨t, rfl, rfl, rfl, wt⟩ := open_int Try.underlying2 (hval 0 2 v0 rfl rfl) h0
  obtain ⟨d, rfl, rfl, rfl, wd⟩ := open_int Try.underlying2 (hval 1 2 v1 rfl rfl) h1
  obtain ⟨r, rfl, rfl, rfl, wr⟩ := open_int Try.underlying2 (hval 2 2 v2 rfl rfl) h2
  clear hA0
  refine (walk t d r W).mono fun e W' ⟨he, hb⟩ => ?_
  subst he
  exact ⟨_, rfl, law_post rfl (by rw [Try.params4]; exact parOk) rfl hW' rfl rfl rfl hb⟩

set_option maxRecDepth 100000 in
theorem lifted (os : Os) (started : os.Started) (H : Type) (enc : TypeId × Value → H) :
    ReturnsInHanded {} Try.checked os 4 .any (Rows.clockGuardsSpec.pre6 enc Try.prog Try.f4 Rows.clockGuardsRow.domain false) (Rows.clockGuardsSpec.post enc Try.prog Try.f4 false true false false) := by
  refine returnsInHanded_of_change (C := Try.checked) own started (by kernel_rfl) Try.func4
    (ChangeSpec.witness6 (enc := enc) (C := Try.checked) false ⟨#[], #[.int .i64 0, .int .i64 0, .int .i64 0], []⟩ 8 (by kernel_rfl) (by kernel_rfl) (by kernel_rfl) (by kernel_rfl)) ?_
  intro W base args ds gs before hval hW _ _
  exact contract H enc W base args ds gs before hval hW

/-- THE STATEMENT. -/
theorem said : Rows.ClockGuardsSaid :=
  OpenClaim.holds_of_wide 4 Try.f4 rfl rfl rfl rfl rfl rfl rfl ⟨rfl, rfl, rfl, rfl, rfl⟩ rfl rfl rfl rfl rfl (by kernel_rfl) Try.func4 (by kernel_rfl)
    (of_decide_eq_true (by kernel_rfl)) (by unfold Func.isWrapper; first | (rw [if_pos (by decide +kernel)]; kernel_rfl) | (rw [if_neg (by decide +kernel)]; exact ⟨rfl, rfl⟩))
    (fun os started H enc _ => lifted os started H enc)
end Go.Proofs.Ytmbapcdchaamfaa.lawGuards
