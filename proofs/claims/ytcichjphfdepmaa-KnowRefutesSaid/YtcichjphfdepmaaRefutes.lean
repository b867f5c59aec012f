/-
  THE LAW KnowRefutes: a node's answer, Alive, beats what it refutes, or is it; its incarnation is never less than it was, and no more than one above both.
  For every incarnation, and for whatever is told.
-/
import Derived.Test.YtcichjphfdepmaaLaw
namespace Go.Proofs.Ytcichjphfdepmaa.lawRefutes
open Go.Sort Go.ChangeShapes Go.WideShapes Go.ChangeAt Go.RowKit Go.Joins Go.Proofs.Ytcichjphfdepmaa.Pure

set_option maxRecDepth 100000 in
set_option maxHeartbeats 4000000 in
/-- It is refused. -/
theorem wayBad (own : Int) (i s : Int) (w : World) (er : Int) (HR : Hid (∀ W : World, Calls Try.prog 9 #[.int .u64 own, .agg #[.int .u64 i, .int .i64 s]] W fun e w' => e = .returned (.tuple #[.int .u64 0, .int .i64 er]) ∧ Below W.heap.size W w'))
    (he : er = 1 ∨ er = 4 ∧ own ≤ i) :
    Calls Try.prog 6 #[.int .u64 own, .agg #[.int .u64 i, .int .i64 s]] w fun e w' => e = .returned (.bool true) ∧ Below w.heap.size w w' := by
  have HB0 : Hid (Below w.heap.size w (w.alloc (.cells #[.int .u64 i, .int .i64 s] 24))) := Lib.hid ((Below.refl _ _).alloc (Nat.le_refl _) _)
  have BX0 := Lib.hid (Vr.new w ⟨i, s⟩ 24)
  go_enter Try.func6, Try.ntmps6
  go_upto_region 1 with (fail)
  generalize w.alloc (.cells #[.int .u64 i, .int .i64 s] 24) = w0 at *
  obtain ⟨⟨x0, x1⟩, _⟩ := BX0.out
  simp only at x0 x1
  go_wp2_with fail
  refine (HR.out _).mono ?_
  rintro e w1 ⟨rfl, hb1⟩
  have HB1 : Hid (Below w.heap.size w w1) := Lib.hid (HB0.out.trans (hb1.mono HB0.out.size))
  have BX1 := Lib.hid (BX0.out.on hb1)
  clear hb1 HB0 BX0 x0 x1
  obtain ⟨⟨x0, x1⟩, _⟩ := BX1.out
  simp only at x0 x1
  rcases he with rfl | ⟨rfl, hle⟩
  · go_wp2_with fail
    refine (awake_any _).mono ?_
    rintro e wE ⟨rfl, hbE⟩
    have HE : Hid (Below w.heap.size w wE) := Lib.hid (HB1.out.trans (hbE.mono HB1.out.size))
    clear hbE
    go_wp2_with fail
    go_ret
    exact ⟨rfl, HE.out⟩
  · have d1 : decide (own ≤ i) = true := by simpa using hle
    clear hle
    go_wp2_with fail
    refine (awake_any _).mono ?_
    rintro e wE ⟨rfl, hbE⟩
    have HE : Hid (Below w.heap.size w wE) := Lib.hid (HB1.out.trans (hbE.mono HB1.out.size))
    clear hbE
    go_wp2_with fail
    go_ret
    exact ⟨rfl, HE.out⟩

set_option maxRecDepth 100000 in
set_option maxHeartbeats 4000000 in
/-- It is answered. -/
theorem wayOk (own : Int) (i s : Int) (w : World) (n : Int) (HR : Hid (∀ W : World, Calls Try.prog 9 #[.int .u64 own, .agg #[.int .u64 i, .int .i64 s]] W fun e w' => e = .returned (.tuple #[.int .u64 n, .int .i64 0]) ∧ Below W.heap.size W w'))
    (HR2 : Hid (∀ W : World, Calls Try.prog 9 #[.int .u64 n, .agg #[.int .u64 i, .int .i64 s]] W fun e w' => e = .returned (.tuple #[.int .u64 n, .int .i64 0]) ∧ Below W.heap.size W w'))
    (b : Bool) (HBT : Hid (∀ W : World, Calls Try.prog 12 #[.agg #[.int .u64 n, .int .i64 0], .agg #[.int .u64 i, .int .i64 s]] W fun e w' => e = .returned (.bool b) ∧ Below W.heap.size W w'))
    (hb : b = true ∨ b = false ∧ i = n ∧ s = 0) (h1 : own ≤ n) (h2 : n - max own i ≤ 1) (h3 : 0 ≤ n - max own i) :
    Calls Try.prog 6 #[.int .u64 own, .agg #[.int .u64 i, .int .i64 s]] w fun e w' => e = .returned (.bool true) ∧ Below w.heap.size w w' := by
  have HB0 : Hid (Below w.heap.size w (w.alloc (.cells #[.int .u64 i, .int .i64 s] 24))) := Lib.hid ((Below.refl _ _).alloc (Nat.le_refl _) _)
  have BX0 := Lib.hid (Vr.new w ⟨i, s⟩ 24)
  go_enter Try.func6, Try.ntmps6
  go_upto_region 1 with (fail)
  generalize w.alloc (.cells #[.int .u64 i, .int .i64 s] 24) = w0 at *
  obtain ⟨⟨x0, x1⟩, _⟩ := BX0.out
  simp only at x0 x1
  go_wp2_with fail
  refine (HR.out _).mono ?_
  rintro e w1 ⟨rfl, hb1⟩
  have HB1 : Hid (Below w.heap.size w w1) := Lib.hid (HB0.out.trans (hb1.mono HB0.out.size))
  have BX1 := Lib.hid (BX0.out.on hb1)
  clear hb1 HB0 BX0 x0 x1
  have d1 : decide (n < own) = false := by simp; omega
  obtain ⟨M, hM⟩ : ∃ M : Int, own < i ∧ M = i ∨ i ≤ own ∧ M = own := ⟨max own i, by omega⟩
  have wr : IntKind.u64.wrap (n - M) = n - M := IntWalk.u64_in _ (by omega)
  have d2 : decide (1 < n - M) = false := by simp; omega
  have HBM := Lib.hid (BX1.out.alloc (.cells #[.int .u64 n, .int .i64 0] 24))
  have HMN := Lib.hid (Vr.new w1 ⟨n, 0⟩ 24)
  have HB2 : Hid (Below w.heap.size w (w1.alloc (.cells #[.int .u64 n, .int .i64 0] 24))) := Lib.hid (HB1.out.alloc HB1.out.size _)
  go_upto_region 5 with (fail)
  generalize w1.alloc (.cells #[.int .u64 n, .int .i64 0] 24) = w2 at *
  generalize w1.heap.size = gm at *
  clear HB1 BX1 h1 h2 h3
  obtain ⟨⟨x0, x1⟩, _⟩ := HBM.out
  obtain ⟨⟨m0, m1⟩, _⟩ := HMN.out
  simp only at x0 x1 m0 m1
  rcases hM with ⟨hlt, rfl⟩ | ⟨hlt, rfl⟩
  · have d3 : decide (own < M) = true := by simpa using hlt
    go_wp2_with fail
    refine (HBT.out _).mono ?_
    rintro e w3 ⟨rfl, hb3⟩
    have HB3 : Hid (Below w.heap.size w w3) := Lib.hid (HB2.out.trans (hb3.mono HB2.out.size))
    have BX3 := Lib.hid (HBM.out.on hb3)
    have BM3 := Lib.hid (HMN.out.on hb3)
    clear hb3 HB2 HBM HMN x0 x1 m0 m1 HBT HR
    obtain ⟨⟨x0, x1⟩, _⟩ := BX3.out
    obtain ⟨⟨m0, m1⟩, _⟩ := BM3.out
    simp only at x0 x1 m0 m1
    rcases hb with rfl | ⟨rfl, rfl, rfl⟩
    · go_wp2_with fail
      refine (HR2.out _).mono ?_
      rintro e w4 ⟨rfl, hb4⟩
      have HB4 : Hid (Below w.heap.size w w4) := Lib.hid (HB3.out.trans (hb4.mono HB3.out.size))
      clear hb4 HB3
      go_wp2_with fail
      refine (awake_any _).mono ?_
      rintro e wE ⟨rfl, hbE⟩
      have HE : Hid (Below w.heap.size w wE) := Lib.hid (HB4.out.trans (hbE.mono HB4.out.size))
      clear hbE
      go_wp2_with fail
      go_ret
      exact ⟨rfl, HE.out⟩
    · go_wp2_with fail
      refine (HR2.out _).mono ?_
      rintro e w4 ⟨rfl, hb4⟩
      have HB4 : Hid (Below w.heap.size w w4) := Lib.hid (HB3.out.trans (hb4.mono HB3.out.size))
      clear hb4 HB3
      go_wp2_with fail
      refine (awake_any _).mono ?_
      rintro e wE ⟨rfl, hbE⟩
      have HE : Hid (Below w.heap.size w wE) := Lib.hid (HB4.out.trans (hbE.mono HB4.out.size))
      clear hbE
      go_wp2_with fail
      go_ret
      exact ⟨rfl, HE.out⟩
  · have d3 : decide (M < i) = false := by simpa using hlt
    have d4 : ¬M < i := by omega
    go_wp2_with fail
    refine (HBT.out _).mono ?_
    rintro e w3 ⟨rfl, hb3⟩
    have HB3 : Hid (Below w.heap.size w w3) := Lib.hid (HB2.out.trans (hb3.mono HB2.out.size))
    have BX3 := Lib.hid (HBM.out.on hb3)
    have BM3 := Lib.hid (HMN.out.on hb3)
    clear hb3 HB2 HBM HMN x0 x1 m0 m1 HBT HR
    obtain ⟨⟨x0, x1⟩, _⟩ := BX3.out
    obtain ⟨⟨m0, m1⟩, _⟩ := BM3.out
    simp only at x0 x1 m0 m1
    rcases hb with rfl | ⟨rfl, rfl, rfl⟩
    · go_wp2_with fail
      refine (HR2.out _).mono ?_
      rintro e w4 ⟨rfl, hb4⟩
      have HB4 : Hid (Below w.heap.size w w4) := Lib.hid (HB3.out.trans (hb4.mono HB3.out.size))
      clear hb4 HB3
      go_wp2_with fail
      refine (awake_any _).mono ?_
      rintro e wE ⟨rfl, hbE⟩
      have HE : Hid (Below w.heap.size w wE) := Lib.hid (HB4.out.trans (hbE.mono HB4.out.size))
      clear hbE
      go_wp2_with fail
      go_ret
      exact ⟨rfl, HE.out⟩
    · go_wp2_with fail
      refine (HR2.out _).mono ?_
      rintro e w4 ⟨rfl, hb4⟩
      have HB4 : Hid (Below w.heap.size w w4) := Lib.hid (HB3.out.trans (hb4.mono HB3.out.size))
      clear hb4 HB3
      go_wp2_with fail
      refine (awake_any _).mono ?_
      rintro e wE ⟨rfl, hbE⟩
      have HE : Hid (Below w.heap.size w wE) := Lib.hid (HB4.out.trans (hbE.mono HB4.out.size))
      clear hbE
      go_wp2_with fail
      go_ret
      exact ⟨rfl, HE.out⟩

theorem walk (own : Int) (k : Kn) (w : World) (hk : Fit k) :
    Calls Try.prog 6 #[.int .u64 own, .agg #[.int .u64 k.i, .int .i64 k.s]] w fun e w' => e = .returned (.bool true) ∧ Below w.heap.size w w' := by
  have HR := fun W => refute_any own k W hk
  have hf := hk
  unfold Fit at hf
  rcases hm : mayK k with _ | _
  · rw [refI_bad hm] at HR
    exact wayBad own k.i k.s w 1 (Lib.hid HR) (.inl rfl)
  have ms := (mayK_iff k).1 hm
  by_cases h1 : k.i < own ∨ (k.i = own ∧ k.s = 0)
  · rw [refI_own hm h1] at HR
    refine wayOk own k.i k.s w own (Lib.hid HR) (Lib.hid HR) _ (Lib.hid fun W => beats_any ⟨own, 0⟩ k W) ?_ (by omega) (by omega) (by omega)
    have hb := beats_key (a := ⟨own, 0⟩) (b := k) rfl hm
    rw [hb]
    unfold key
    simp only [decide_eq_true_iff, decide_eq_false_iff_not]
    omega
  · by_cases h2 : k.i = 18446744073709551615
    · rw [refI_large hm h1 h2] at HR
      exact wayBad own k.i k.s w 4 (Lib.hid HR) (.inr ⟨rfl, by omega⟩)
    · rw [refI_more hm h1 h2] at HR
      have HR2 := fun W => refute_any (k.i + 1) k W hk
      rw [refI_own hm (by omega)] at HR2
      refine wayOk own k.i k.s w (k.i + 1) (Lib.hid HR) (Lib.hid HR2) _ (Lib.hid fun W => beats_any ⟨k.i + 1, 0⟩ k W) ?_ (by omega) (by omega) (by omega)
      have hb := beats_key (a := ⟨k.i + 1, 0⟩) (b := k) rfl hm
      rw [hb]
      unfold key
      simp only [decide_eq_true_iff, decide_eq_false_iff_not]
      omega

/-! ### the statement -/
theorem parOk : ∀ t ∈ (#[22, 24] : Array TypeId).toList, Try.prog.readableRec t = true ∧ t < Try.prog.types.size := by
  have hall : ([22, 24].all fun t => Try.prog.readableRec t && decide (t < Try.prog.types.size)) = true := by kernel_rfl
  intro t ht
  simpa using List.all_eq_true.1 hall t ht

/-- What the walk gives, for every argument. -/
theorem contract (H : Type) (enc : TypeId × Value → H) (W : World) (base : Nat) (args : Array Value) (ds gs : List (DataW H)) (before : List MemPlace)
    (hval : ∀ (j : Nat) t v, Try.f6.params[j]? = some t → args[j]? = some v → Value.okWide Try.prog W .any base t v)
    (hW : DataW.Whole enc Try.prog Try.f6.params.toList Rows.knowRefutesSpec.vars false W args.toList ds gs before) :
    Calls Try.prog 6 args W fun e W' => ∃ v, e = .returned v ∧ Rows.knowRefutesSpec.post enc Try.prog Try.f6 false true false false W args v W' := by
  have hW' := hW
  obtain ⟨p, q, hA0, hV, rfl, hfz, hnd⟩ := hW
  have hA : DataW.TrodAll enc Try.prog W 0 (fun _ => true) true Try.f6.params.toList args.toList ds p := hA0
  rw [Try.params6] at hA hval
  obtain ⟨v0, vs0, d0, ds0, p0, q0, hargs, rfl, rfl, h0, r0⟩ := trodAll_cons hA
  obtain ⟨v1, vs1, d1, ds1, p1, q1, rfl, rfl, rfl, h1, r1⟩ := trodAll_cons r0
  obtain ⟨rfl, rfl, rfl⟩ := trodAll_nil r1
  obtain rfl : args = #[v0, v1] := by cases args; simp_all
  obtain ⟨rfl, rfl⟩ := trodVars_none hV
  obtain ⟨own, rfl, rfl, rfl, wown⟩ := open_int Try.underlying22 (hval 0 22 v0 rfl rfl) h0
  obtain ⟨k, rfl, fk⟩ := open_kn (hval 1 24 v1 rfl rfl) h1
  clear hA0
  refine (walk own k W fk).mono fun e W' ⟨he, hb⟩ => ?_
  subst he
  exact ⟨_, rfl, law_post rfl (by rw [Try.params6]; exact parOk) rfl hW' rfl rfl rfl hb⟩

set_option maxRecDepth 100000 in
theorem lifted (os : Os) (started : os.Started) (H : Type) (enc : TypeId × Value → H) :
    ReturnsInHanded {} Try.checked os 6 .any (Rows.knowRefutesSpec.pre6 enc Try.prog Try.f6 Rows.knowRefutesRow.domain false) (Rows.knowRefutesSpec.post enc Try.prog Try.f6 false true false false) := by
  refine returnsInHanded_of_change (C := Try.checked) own started (by kernel_rfl) Try.func6
    (ChangeSpec.witness6 (enc := enc) (C := Try.checked) false ⟨#[], #[.int .u64 0, .agg #[.int .u64 0, .int .i64 0]], []⟩ 8 (by kernel_rfl) (by kernel_rfl) (by kernel_rfl) (by kernel_rfl)) ?_
  intro W base args ds gs before hval hW _ _
  exact contract H enc W base args ds gs before hval hW

/-- THE STATEMENT. -/
theorem said : Rows.KnowRefutesSaid :=
  OpenClaim.holds_of_wide 6 Try.f6 rfl rfl rfl rfl rfl rfl rfl ⟨rfl, rfl, rfl, rfl, rfl⟩ rfl rfl rfl rfl rfl (by kernel_rfl) Try.func6 (by kernel_rfl)
    (of_decide_eq_true (by kernel_rfl)) (by unfold Func.isWrapper; first | (rw [if_pos (by decide +kernel)]; kernel_rfl) | (rw [if_neg (by decide +kernel)]; exact ⟨rfl, rfl⟩))
    (fun os started H enc _ => lifted os started H enc)
end Go.Proofs.Ytcichjphfdepmaa.lawRefutes
