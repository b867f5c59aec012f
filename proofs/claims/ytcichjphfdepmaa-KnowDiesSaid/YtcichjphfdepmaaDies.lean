/-
  THE LAW KnowDies: of one incarnation, what is known goes from alive to suspect, dead, and left, and never back; a greater incarnation begins anew, whatever was known.
  For every incarnation, and any two octets.
-/
import Derived.Test.YtcichjphfdepmaaLaw
namespace Go.Proofs.Ytcichjphfdepmaa.lawDies
open Go.Sort Go.ChangeShapes Go.WideShapes Go.ChangeAt Go.RowKit Go.Joins Go.Proofs.Ytcichjphfdepmaa.Pure

set_option maxRecDepth 100000 in
set_option maxHeartbeats 4000000 in
theorem way (inc a b x y p : Int) (w : World) (hxa : Int.tmod a 4 = x) (hyb : Int.tmod b 4 = y) (hx : 0 ≤ x ∧ x ≤ 3) (hy : 0 ≤ y ∧ y ≤ 3) (hi : 0 ≤ inc ∧ inc ≤ 18446744073709551615) (v : Bool)
    (hc : x < y ∧ p = y ∧ v = false ∨ x = y ∧ p = x ∧ v = false ∨ y < x ∧ p = x ∧ v = true)
    (HXY : Hid (∀ W : World, Calls Try.prog 12 #[.agg #[.int .u64 inc, .int .i64 x], .agg #[.int .u64 inc, .int .i64 y]] W fun e w' => e = .returned (.bool v) ∧ Below W.heap.size W w'))
    (HJ : Hid (∀ (W : World) (g : Nat), Lst W (some ⟨g, 0, none⟩) [⟨inc, x⟩, ⟨inc, y⟩] → Calls Try.prog 18 #[.slice (some ⟨g, 0, none⟩) 2 2] W fun e w' => e = .returned (.tuple #[.agg #[.int .u64 inc, .int .i64 p], .int .i64 0]) ∧ Below W.heap.size W w'))
    (HJ3 : Hid (inc + 1 ≤ 18446744073709551615 → ∀ (W : World) (g : Nat), Lst W (some ⟨g, 0, none⟩) [⟨inc, x⟩, ⟨inc, y⟩, ⟨inc + 1, x⟩] → Calls Try.prog 18 #[.slice (some ⟨g, 0, none⟩) 3 3] W fun e w' => e = .returned (.tuple #[.agg #[.int .u64 (inc + 1), .int .i64 x], .int .i64 0]) ∧ Below W.heap.size W w'))
    (HZ : Hid (∀ W : World, Calls Try.prog 12 #[.agg #[.int .u64 (inc + 1), .int .i64 x], .agg #[.int .u64 inc, .int .i64 3]] W fun e w' => e = .returned (.bool true) ∧ Below W.heap.size W w'))
    (HU : Hid (∀ W : World, Calls Try.prog 15 #[.agg #[.int .u64 (inc + 1), .int .i64 x]] W fun e w' => e = .returned (.bool (decide (x < 2))) ∧ Below W.heap.size W w')) :
    Calls Try.prog 8 #[.int .u64 inc, .int .u8 a, .int .u8 b] w fun e w' => e = .returned (.bool true) ∧ Below w.heap.size w w' := by
  have cx : IntKind.i64.wrap x = x := IntWalk.i64_in _ (by omega)
  have cy : IntKind.i64.wrap y = y := IntWalk.i64_in _ (by omega)
  have ux : IntKind.u8.wrap x = x := IntWalk.u8_in _ (by omega)
  have uy : IntKind.u8.wrap y = y := IntWalk.u8_in _ (by omega)
  go_enter Try.func8, Try.ntmps8
  have HC := Lib.hid hc
  clear hc
  go_upto_region 2 with (fail)
  have HB_0 : Hid (Below w.heap.size w ((w.alloc (.cells #[.int .u64 inc, .int .i64 x] 24)).alloc (.cells #[.int .u64 inc, .int .i64 y] 24))) := Lib.hid (((Below.refl _ _).alloc (Nat.le_refl _) _).alloc (by simp) _)
  have Bx_0 : Hid (Vr ((w.alloc (.cells #[.int .u64 inc, .int .i64 x] 24)).alloc (.cells #[.int .u64 inc, .int .i64 y] 24)) w.heap.size ⟨inc, x⟩) := Lib.hid ((Vr.new w ⟨inc, x⟩ _).alloc _)
  have By_0 : Hid (Vr ((w.alloc (.cells #[.int .u64 inc, .int .i64 x] 24)).alloc (.cells #[.int .u64 inc, .int .i64 y] 24)) (w.heap.size + 1) ⟨inc, y⟩) := Lib.hid (Vr.at_ (by simp) ⟨inc, y⟩ _)
  generalize (w.alloc (.cells #[.int .u64 inc, .int .i64 x] 24)).alloc (.cells #[.int .u64 inc, .int .i64 y] 24) = w0 at *
  obtain ⟨⟨x0, x1⟩, _⟩ := Bx_0.out
  obtain ⟨⟨y0, y1⟩, _⟩ := By_0.out
  simp only at x0 x1 y0 y1
  go_wp2_with fail
  refine (HJ.out _ _ (Lst.two _ ⟨inc, x⟩ ⟨inc, y⟩ _)).mono ?_
  rintro e wj ⟨rfl, hbj⟩
  have hbj' := Below.trans ((Below.refl _ _).alloc (Nat.le_refl _) _) (hbj.mono (by simp))
  clear hbj
  clear x0 x1 y0 y1
  have HB_1 : Hid (Below w.heap.size w wj) := Lib.hid (HB_0.out.trans (hbj'.mono HB_0.out.size))
  have Bx_1 := Lib.hid (Bx_0.out.on hbj')
  have By_1 := Lib.hid (By_0.out.on hbj')
  clear HB_0 Bx_0 By_0 hbj'
  go_upto_region 3 with (fail)
  have Bj_2 := Lib.hid (Vr.new wj ⟨inc, p⟩ 24)
  have Bx_2 := Lib.hid (Bx_1.out.alloc (.cells #[.int .u64 inc, .int .i64 p] 24))
  have By_2 := Lib.hid (By_1.out.alloc (.cells #[.int .u64 inc, .int .i64 p] 24))
  have HB_2 : Hid (Below w.heap.size w (wj.alloc (.cells #[.int .u64 inc, .int .i64 p] 24))) := Lib.hid (HB_1.out.alloc HB_1.out.size _)
  have hg_gj : w.heap.size ≤ wj.heap.size := HB_1.out.size
  have hl_gj_x : w.heap.size < wj.heap.size := Bx_1.out.lt
  have hl_gj_y : (w.heap.size + 1) < wj.heap.size := By_1.out.lt
  clear HB_1 Bx_1 By_1
  generalize wj.alloc (.cells #[.int .u64 inc, .int .i64 p] 24) = v1 at *
  generalize wj.heap.size = gj at *
  go_cut [59] (fun s wx => s = .bool false ∧ Hid (Below v1.heap.size v1 wx))
  case first =>
    obtain ⟨⟨x0, x1⟩, _⟩ := Bx_2.out
    obtain ⟨⟨y0, y1⟩, _⟩ := By_2.out
    obtain ⟨⟨j0, j1⟩, _⟩ := Bj_2.out
    simp only at x0 x1 y0 y1 j0 j1
    have x0' := fun d os => cell_regrown x0 d os
    have x1' := fun d os => cell_regrown x1 d os
    have y0' := fun d os => cell_regrown y0 d os
    have y1' := fun d os => cell_regrown y1 d os
    have j0' := fun d os => cell_regrown j0 d os
    have j1' := fun d os => cell_regrown j1 d os
    rcases HC.out with ⟨h1, rfl, rfl⟩ | ⟨rfl, rfl, rfl⟩ | ⟨h1, rfl, rfl⟩
    · have d1 : decide (x < p) = true := by simpa using h1
      have d2 : decide (p < x) = false := by simp; omega
      refine q_enter (by kernel_rfl) (by kernel_rfl) ?_
      iterate 29 (refine q_step ?_; intro K hK; go_simp; first | (refine hK _ ?_; clear hK K) | (refine ⟨_, fun p => Calls.regrown_of (by with_reducible exact HXY.out _), hK _ ?_⟩; clear hK K))
      refine q_nil ?_
      intro wz hbz
      have HZZ := Lib.hid hbz
      clear hbz
      go_wp2_with fail
      go_meet
      exact ⟨rfl, HZZ⟩
    · have d1 : decide (p < p) = false := by simp
      refine q_enter (by kernel_rfl) (by kernel_rfl) ?_
      iterate 29 (refine q_step ?_; intro K hK; go_simp; first | (refine hK _ ?_; clear hK K) | (refine ⟨_, fun p => Calls.regrown_of (by with_reducible exact HXY.out _), hK _ ?_⟩; clear hK K))
      refine q_nil ?_
      intro wz hbz
      have HZZ := Lib.hid hbz
      clear hbz
      go_wp2_with fail
      go_meet
      exact ⟨rfl, HZZ⟩
    · have d1 : decide (p < y) = false := by simp; omega
      have d2 : decide (y < p) = true := by simpa using h1
      have d3 : ¬p < y := by omega
      refine q_enter (by kernel_rfl) (by kernel_rfl) ?_
      iterate 29 (refine q_step ?_; intro K hK; go_simp; first | (refine hK _ ?_; clear hK K) | (refine ⟨_, fun p => Calls.regrown_of (by with_reducible exact HXY.out _), hK _ ?_⟩; clear hK K))
      refine q_nil ?_
      intro wz hbz
      have HZZ := Lib.hid hbz
      clear hbz
      go_wp2_with fail
      go_meet
      exact ⟨rfl, HZZ⟩
  case rest =>
  obtain ⟨rfl, HCZ⟩ := hcut
  have hbc := HCZ.out
  clear HCZ HXY HJ
  have HB_3 : Hid (Below w.heap.size w wc) := Lib.hid (HB_2.out.trans (hbc.mono HB_2.out.size))
  have Bx_3 := Lib.hid (Bx_2.out.on hbc)
  have By_3 := Lib.hid (By_2.out.on hbc)
  have Bj_3 := Lib.hid (Bj_2.out.on hbc)
  clear HB_2 Bx_2 By_2 Bj_2 hbc
  by_cases hm : inc = 18446744073709551615
  · subst hm
    go_wp2_with fail
    refine (awake_any _).mono ?_
    rintro e wE ⟨rfl, hbE⟩
    have HE : Hid (Below w.heap.size w wE) := Lib.hid (HB_3.out.trans (hbE.mono HB_3.out.size))
    clear hbE
    go_wp2_with fail
    go_ret
    exact ⟨rfl, HE.out⟩
  have dm : (inc == 18446744073709551615) = false := by simpa using hm
  have HJ4 := Lib.hid (HJ3.out (by omega))
  have wi : IntKind.u64.wrap (inc + 1) = inc + 1 := IntWalk.u64_in _ (by omega)
  clear HJ3 hm
  go_upto_region 8 with (fail)
  have Bz_4 := Lib.hid (Vr.new wc ⟨inc + 1, x⟩ 24)
  have Bx_4 := Lib.hid (Bx_3.out.alloc (.cells #[.int .u64 (inc + 1), .int .i64 x] 24))
  have By_4 := Lib.hid (By_3.out.alloc (.cells #[.int .u64 (inc + 1), .int .i64 x] 24))
  have Bj_4 := Lib.hid (Bj_3.out.alloc (.cells #[.int .u64 (inc + 1), .int .i64 x] 24))
  have HB_4 : Hid (Below w.heap.size w (wc.alloc (.cells #[.int .u64 (inc + 1), .int .i64 x] 24))) := Lib.hid (HB_3.out.alloc HB_3.out.size _)
  have hg_gz : w.heap.size ≤ wc.heap.size := HB_3.out.size
  have hl_gz_x : w.heap.size < wc.heap.size := Bx_3.out.lt
  have hl_gz_y : (w.heap.size + 1) < wc.heap.size := By_3.out.lt
  have hl_gz_j : gj < wc.heap.size := Bj_3.out.lt
  clear HB_3 Bx_3 By_3 Bj_3
  generalize wc.alloc (.cells #[.int .u64 (inc + 1), .int .i64 x] 24) = v2 at *
  generalize wc.heap.size = gz at *
  obtain ⟨⟨x0, x1⟩, _⟩ := Bx_4.out
  obtain ⟨⟨y0, y1⟩, _⟩ := By_4.out
  obtain ⟨⟨z0, z1⟩, _⟩ := Bz_4.out
  simp only at x0 x1 y0 y1 z0 z1
  go_wp2_with fail
  refine (HJ4.out _ _ (Lst.three _ ⟨inc, x⟩ ⟨inc, y⟩ ⟨inc + 1, x⟩ _)).mono ?_
  rintro e wj ⟨rfl, hbj⟩
  have hbj' := Below.trans ((Below.refl _ _).alloc (Nat.le_refl _) _) (hbj.mono (by simp))
  clear hbj
  clear x0 x1 y0 y1 z0 z1
  have HB_5 : Hid (Below w.heap.size w wj) := Lib.hid (HB_4.out.trans (hbj'.mono HB_4.out.size))
  have Bx_5 := Lib.hid (Bx_4.out.on hbj')
  have By_5 := Lib.hid (By_4.out.on hbj')
  have Bj_5 := Lib.hid (Bj_4.out.on hbj')
  have Bz_5 := Lib.hid (Bz_4.out.on hbj')
  clear HB_4 Bx_4 By_4 Bj_4 Bz_4 hbj'
  go_upto_region 9 with (fail)
  have Bk_6 := Lib.hid (Vr.new wj ⟨inc + 1, x⟩ 24)
  have Bx_6 := Lib.hid (Bx_5.out.alloc (.cells #[.int .u64 (inc + 1), .int .i64 x] 24))
  have By_6 := Lib.hid (By_5.out.alloc (.cells #[.int .u64 (inc + 1), .int .i64 x] 24))
  have Bj_6 := Lib.hid (Bj_5.out.alloc (.cells #[.int .u64 (inc + 1), .int .i64 x] 24))
  have Bz_6 := Lib.hid (Bz_5.out.alloc (.cells #[.int .u64 (inc + 1), .int .i64 x] 24))
  have HB_6 : Hid (Below w.heap.size w (wj.alloc (.cells #[.int .u64 (inc + 1), .int .i64 x] 24))) := Lib.hid (HB_5.out.alloc HB_5.out.size _)
  have hg_gk : w.heap.size ≤ wj.heap.size := HB_5.out.size
  have hl_gk_x : w.heap.size < wj.heap.size := Bx_5.out.lt
  have hl_gk_y : (w.heap.size + 1) < wj.heap.size := By_5.out.lt
  have hl_gk_j : gj < wj.heap.size := Bj_5.out.lt
  have hl_gk_z : gz < wj.heap.size := Bz_5.out.lt
  clear HB_5 Bx_5 By_5 Bj_5 Bz_5
  generalize wj.alloc (.cells #[.int .u64 (inc + 1), .int .i64 x] 24) = v3 at *
  generalize wj.heap.size = gk at *
  obtain ⟨⟨z0, z1⟩, _⟩ := Bz_6.out
  obtain ⟨⟨k0, k1⟩, _⟩ := Bk_6.out
  simp only at z0 z1 k0 k1
  have z0' := fun d os => cell_regrown z0 d os
  have z1' := fun d os => cell_regrown z1 d os
  have k0' := fun d os => cell_regrown k0 d os
  have k1' := fun d os => cell_regrown k1 d os
  have HAW := Lib.hid (fun W => awake_any W)
  clear HJ4 cx cy ux uy wi
  refine q_enter (by kernel_rfl) (by kernel_rfl) ?_
  iterate 25 (refine q_step ?_; intro K hK; go_simp; first | (refine hK _ ?_; clear hK K) | (refine ⟨_, fun p => Calls.regrown_of (by with_reducible exact HZ.out _), hK _ ?_⟩; clear hK K) | (refine ⟨_, fun p => Calls.regrown_of (by with_reducible exact HU.out _), hK _ ?_⟩; clear hK K) | (refine ⟨_, fun p => Calls.regrown_of (by with_reducible exact HAW.out _), hK _ ?_⟩; clear hK K))
  refine q_nil ?_
  intro wz hbz
  have HE : Hid (Below w.heap.size w wz) := Lib.hid (HB_6.out.trans (hbz.mono HB_6.out.size))
  clear hbz
  go_wp2_with fail
  go_ret
  exact ⟨rfl, HE.out⟩

theorem walk (inc a b : Int) (w : World) (hi : 0 ≤ inc ∧ inc ≤ 18446744073709551615) (ha : 0 ≤ a ∧ a ≤ 255) (hb : 0 ≤ b ∧ b ≤ 255) :
    Calls Try.prog 8 #[.int .u64 inc, .int .u8 a, .int .u8 b] w fun e w' => e = .returned (.bool true) ∧ Below w.heap.size w w' := by
  obtain ⟨x, hx⟩ : ∃ x, Int.tmod a 4 = x := ⟨_, rfl⟩
  obtain ⟨y, hy⟩ : ∃ y, Int.tmod b 4 = y := ⟨_, rfl⟩
  have bx : 0 ≤ x ∧ x ≤ 3 := by rw [← hx, Int.tmod_eq_emod_of_nonneg ha.1]; omega
  have by' : 0 ≤ y ∧ y ≤ 3 := by rw [← hy, Int.tmod_eq_emod_of_nonneg hb.1]; omega
  have mx : mayK ⟨inc, x⟩ = true := (mayK_iff _).2 bx
  have my : mayK ⟨inc, y⟩ = true := (mayK_iff _).2 by'
  have mz : mayK ⟨inc + 1, x⟩ = true := (mayK_iff _).2 bx
  have m3 : mayK ⟨inc, 3⟩ = true := rfl
  have hs : stepK ⟨inc, x⟩ ⟨inc, y⟩ = ⟨inc, max x y⟩ := by
    refine key_inj (stepK_may mx) ((mayK_iff _).2 (by simp only; omega)) ?_
    rw [stepK_key mx my]
    unfold key
    simp only
    omega
  have HJ := fun (W : World) (g : Nat) (h : Lst W (some ⟨g, 0, none⟩) [⟨inc, x⟩, ⟨inc, y⟩]) => join2_any g ⟨inc, x⟩ ⟨inc, y⟩ W mx my hi h
  rw [hs] at HJ
  have hz : stepK (stepK ⟨inc, x⟩ ⟨inc, y⟩) ⟨inc + 1, x⟩ = ⟨inc + 1, x⟩ := by
    refine key_inj (stepK_may (stepK_may mx)) mz ?_
    rw [stepK_key (stepK_may mx) mz, stepK_key mx my]
    unfold key
    simp only
    omega
  have HJ3 := fun (W : World) (g : Nat) (h : Lst W (some ⟨g, 0, none⟩) [⟨inc, x⟩, ⟨inc, y⟩, ⟨inc + 1, x⟩]) => join3_any g ⟨inc, x⟩ ⟨inc, y⟩ ⟨inc + 1, x⟩ W mx my mz hi h
  rw [hz] at HJ3
  have HZ := fun W : World => beats_any ⟨inc + 1, x⟩ ⟨inc, 3⟩ W
  rw [beats_key mz m3, show decide (key ⟨inc, 3⟩ < key ⟨inc + 1, x⟩) = true by unfold key; simp only [decide_eq_true_iff]; omega] at HZ
  have HU := fun W : World => up_any ⟨inc + 1, x⟩ W
  rw [show ((⟨inc + 1, x⟩ : Kn).s == 0 || (⟨inc + 1, x⟩ : Kn).s == 1) = decide (x < 2) by
    rw [Bool.eq_iff_iff]; simp only [Bool.or_eq_true, beq_iff_eq, decide_eq_true_iff]; omega] at HU
  refine way inc a b x y (max x y) w hx hy bx by' hi (beatsB ⟨inc, x⟩ ⟨inc, y⟩) ?_ (Lib.hid fun W => beats_any ⟨inc, x⟩ ⟨inc, y⟩ W) (Lib.hid HJ) (Lib.hid fun _ => HJ3) (Lib.hid HZ) (Lib.hid HU)
  rw [beats_key mx my]
  unfold key
  simp only [decide_eq_true_iff, decide_eq_false_iff_not]
  omega

/-! ### the statement -/
theorem parOk : ∀ t ∈ (#[22, 5, 5] : Array TypeId).toList, Try.prog.readableRec t = true ∧ t < Try.prog.types.size := by
  have hall : ([22, 5, 5].all fun t => Try.prog.readableRec t && decide (t < Try.prog.types.size)) = true := by kernel_rfl
  intro t ht
  simpa using List.all_eq_true.1 hall t ht

/-- What the walk gives, for every argument. -/
theorem contract (H : Type) (enc : TypeId × Value → H) (W : World) (base : Nat) (args : Array Value) (ds gs : List (DataW H)) (before : List MemPlace)
    (hval : ∀ (j : Nat) t v, Try.f8.params[j]? = some t → args[j]? = some v → Value.okWide Try.prog W .any base t v)
    (hW : DataW.Whole enc Try.prog Try.f8.params.toList Rows.knowDiesSpec.vars false W args.toList ds gs before) :
    Calls Try.prog 8 args W fun e W' => ∃ v, e = .returned v ∧ Rows.knowDiesSpec.post enc Try.prog Try.f8 false true false false W args v W' := by
  have hW' := hW
  obtain ⟨p, q, hA0, hV, rfl, hfz, hnd⟩ := hW
  have hA : DataW.TrodAll enc Try.prog W 0 (fun _ => true) true Try.f8.params.toList args.toList ds p := hA0
  rw [Try.params8] at hA hval
  obtain ⟨v0, vs0, d0, ds0, p0, q0, hargs, rfl, rfl, h0, r0⟩ := trodAll_cons hA
  obtain ⟨v1, vs1, d1, ds1, p1, q1, rfl, rfl, rfl, h1, r1⟩ := trodAll_cons r0
  obtain ⟨v2, vs2, d2, ds2, p2, q2, rfl, rfl, rfl, h2, r2⟩ := trodAll_cons r1
  obtain ⟨rfl, rfl, rfl⟩ := trodAll_nil r2
  obtain rfl : args = #[v0, v1, v2] := by cases args; simp_all
  obtain ⟨rfl, rfl⟩ := trodVars_none hV
  obtain ⟨i, rfl, rfl, rfl, wi⟩ := open_int Try.underlying22 (hval 0 22 v0 rfl rfl) h0
  obtain ⟨a, rfl, rfl, rfl, wa⟩ := open_int Try.underlying5 (hval 1 5 v1 rfl rfl) h1
  obtain ⟨b, rfl, rfl, rfl, wb⟩ := open_int Try.underlying5 (hval 2 5 v2 rfl rfl) h2
  clear hA0
  refine (walk i a b W (u64_of_wf wi) (u8_of_wf wa) (u8_of_wf wb)).mono fun e W' ⟨he, hb⟩ => ?_
  subst he
  exact ⟨_, rfl, law_post rfl (by rw [Try.params8]; exact parOk) rfl hW' rfl rfl rfl hb⟩

set_option maxRecDepth 100000 in
theorem lifted (os : Os) (started : os.Started) (H : Type) (enc : TypeId × Value → H) :
    ReturnsInHanded {} Try.checked os 8 .any (Rows.knowDiesSpec.pre6 enc Try.prog Try.f8 Rows.knowDiesRow.domain false) (Rows.knowDiesSpec.post enc Try.prog Try.f8 false true false false) := by
  refine returnsInHanded_of_change (C := Try.checked) own started (by kernel_rfl) Try.func8
    (ChangeSpec.witness6 (enc := enc) (C := Try.checked) false ⟨#[], #[.int .u64 0, .int .u8 0, .int .u8 0], []⟩ 8 (by kernel_rfl) (by kernel_rfl) (by kernel_rfl) (by kernel_rfl)) ?_
  intro W base args ds gs before hval hW _ _
  exact contract H enc W base args ds gs before hval hW

/-- THE STATEMENT. -/
theorem said : Rows.KnowDiesSaid :=
  OpenClaim.holds_of_wide 8 Try.f8 rfl rfl rfl rfl rfl rfl rfl ⟨rfl, rfl, rfl, rfl, rfl⟩ rfl rfl rfl rfl rfl (by kernel_rfl) Try.func8 (by kernel_rfl)
    (of_decide_eq_true (by kernel_rfl)) (by unfold Func.isWrapper; first | (rw [if_pos (by decide +kernel)]; kernel_rfl) | (rw [if_neg (by decide +kernel)]; exact ⟨rfl, rfl⟩))
    (fun os started H enc _ => lifted os started H enc)
end Go.Proofs.Ytcichjphfdepmaa.lawDies
