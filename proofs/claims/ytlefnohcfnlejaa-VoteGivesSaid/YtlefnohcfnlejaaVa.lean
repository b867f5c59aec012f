/-
  The walk of the chapter's examples.
-/
import Derived.Test.YtlefnohcfnlejaaVl
import Derived.Test.YtlefnohcfnlejaaPlanC
namespace Go.Proofs.Ytlefnohcfnlejaa
open Go.Sort Go.RowKit Go.Proofs.Ytlefnohcfnlejaa.Pure

set_option maxRecDepth 100000 in
set_option maxHeartbeats 4000000 in
theorem ten_any (w : World) : Calls Try.prog 17 #[] w fun e w' => e = .returned (.agg #[.int .i64 10, .int .i64 0, .int .i64 1000]) ∧ Below w.heap.size w w' := by
  have HB1 : Hid (Below w.heap.size w (w.alloc (.cells #[.int .i64 0, .int .i64 0, .int .i64 0] 23))) := Lib.hid ((Below.refl _ _).alloc (Nat.le_refl _) _)
  go_enter Try.func17, Try.ntmps17
  go_wp2_with fail
  first
    | (go_ret2; exact ⟨rfl, Below.refl _ _⟩)
    | (exact bodyPost_ret (v := .agg #[.int .i64 10, .int .i64 0, .int .i64 1000]) (by simp [results, Try.results17, go_sem]) rfl ⟨rfl, by first | exact (Below.refl _ _).alloc (Nat.le_refl _) _ | exact (((((Below.refl _ _).alloc (Nat.le_refl _) _).setCell (Nat.le_refl _) _).setCell (Nat.le_refl _) _).setCell (Nat.le_refl _) _)⟩)
theorem ten_holds : ¬ holdF ⟨10, 0, 1000⟩ = 0 := by
  have hb : tmB ⟨10, 0, 1000⟩ = true := (tmB_iff _).2 ⟨by decide, by decide, by decide⟩
  have h := holdF_of (x := ⟨10, 0, 1000⟩) (g := 10) hb ⟨by decide, by decide, .inr (by decide), by decide⟩
  rw [h]
  decide
theorem ak_lit {v : Vt} {f e n : Int} {R : Vt} {B : Bool} (h1 : mayV v = true) (h2 : nodeV f = true) (h3 : momB n = true) (hB : grB v f e n = B) (hR : askV 10 v f e n = R) : akE ⟨10, 0, 1000⟩ v f n = 0 ∧ akB ⟨10, 0, 1000⟩ v f e n = B ∧ akR ⟨10, 0, 1000⟩ v f e n = R := by
  have h := ak_is (x := ⟨10, 0, 1000⟩) (v := v) ten_holds h1 h2 h3
  refine ⟨h, ?_, ?_⟩
  · unfold akB; rw [h, hB]; rfl
  · unfold akR; rw [if_pos h]; exact hR
set_option maxRecDepth 100000 in
set_option maxHeartbeats 4000000 in
theorem awake_any (w : World) : Calls Try.prog 10 #[] w fun e w' => e = .returned (.bool true) ∧ Below w.heap.size w w' := by
  have HTN := Lib.hid (fun W => ten_any W)
  have HNW := Lib.hid (fun W => new_any W)
  have H1 : Hid (∀ W : World, Calls Try.prog 12 #[.agg #[.int .i64 10, .int .i64 0, .int .i64 1000], .agg #[.int .u64 0, .int .i64 (-1), .int .i64 0, .int .i64 0], .int .i64 2, .int .u64 1, .int .i64 5] W fun r w' => r = .returned (.tuple #[.agg #[.int .u64 1, .int .i64 2, .int .i64 15, .int .i64 0], .bool true, .int .i64 0]) ∧ Below W.heap.size W w') := Lib.hid (fun W => by
    obtain ⟨h1, h2, h3⟩ := ak_lit (v := ⟨0, (-1), 0, 0⟩) (f := 2) (e := 1) (n := 5) (R := ⟨1, 2, 15, 0⟩) (B := true) (by decide) (by decide) (by decide) (by decide) (by decide)
    have h := ask_any ⟨10, 0, 1000⟩ ⟨0, (-1), 0, 0⟩ 2 1 5 W
    rw [h1, h2, h3] at h
    exact h)
  have H2 : Hid (∀ W : World, Calls Try.prog 12 #[.agg #[.int .i64 10, .int .i64 0, .int .i64 1000], .agg #[.int .u64 1, .int .i64 2, .int .i64 15, .int .i64 0], .int .i64 3, .int .u64 2, .int .i64 14] W fun r w' => r = .returned (.tuple #[.agg #[.int .u64 1, .int .i64 2, .int .i64 15, .int .i64 0], .bool false, .int .i64 0]) ∧ Below W.heap.size W w') := Lib.hid (fun W => by
    obtain ⟨h1, h2, h3⟩ := ak_lit (v := ⟨1, 2, 15, 0⟩) (f := 3) (e := 2) (n := 14) (R := ⟨1, 2, 15, 0⟩) (B := false) (by decide) (by decide) (by decide) (by decide) (by decide)
    have h := ask_any ⟨10, 0, 1000⟩ ⟨1, 2, 15, 0⟩ 3 2 14 W
    rw [h1, h2, h3] at h
    exact h)
  have H3 : Hid (∀ W : World, Calls Try.prog 12 #[.agg #[.int .i64 10, .int .i64 0, .int .i64 1000], .agg #[.int .u64 1, .int .i64 2, .int .i64 15, .int .i64 0], .int .i64 3, .int .u64 2, .int .i64 15] W fun r w' => r = .returned (.tuple #[.agg #[.int .u64 2, .int .i64 3, .int .i64 25, .int .i64 0], .bool true, .int .i64 0]) ∧ Below W.heap.size W w') := Lib.hid (fun W => by
    obtain ⟨h1, h2, h3⟩ := ak_lit (v := ⟨1, 2, 15, 0⟩) (f := 3) (e := 2) (n := 15) (R := ⟨2, 3, 25, 0⟩) (B := true) (by decide) (by decide) (by decide) (by decide) (by decide)
    have h := ask_any ⟨10, 0, 1000⟩ ⟨1, 2, 15, 0⟩ 3 2 15 W
    rw [h1, h2, h3] at h
    exact h)
  have H4 : Hid (∀ W : World, Calls Try.prog 19 #[.agg #[.int .i64 10, .int .i64 0, .int .i64 1000], .int .u64 0, .int .i64 (-1), .int .i64 0] W fun r w' => r = .returned (.tuple #[.agg #[.int .u64 0, .int .i64 (-1), .int .i64 0, .int .i64 10], .int .i64 0]) ∧ Below W.heap.size W w') := Lib.hid (fun W => by
    have h1 := rs_is (x := ⟨10, 0, 1000⟩) (t := -1) (n := 0) ten_holds (by decide) (by decide)
    have h2 : rsR ⟨10, 0, 1000⟩ 0 (-1) 0 = ⟨0, (-1), 0, 10⟩ := by unfold rsR; rw [if_pos h1]; decide
    have h := restart_any ⟨10, 0, 1000⟩ 0 (-1) 0 W
    rw [h1, h2] at h
    exact h)
  have H5 : Hid (∀ W : World, Calls Try.prog 12 #[.agg #[.int .i64 10, .int .i64 0, .int .i64 1000], .agg #[.int .u64 0, .int .i64 (-1), .int .i64 0, .int .i64 10], .int .i64 1, .int .u64 1, .int .i64 9] W fun r w' => r = .returned (.tuple #[.agg #[.int .u64 0, .int .i64 (-1), .int .i64 0, .int .i64 10], .bool false, .int .i64 0]) ∧ Below W.heap.size W w') := Lib.hid (fun W => by
    obtain ⟨h1, h2, h3⟩ := ak_lit (v := ⟨0, (-1), 0, 10⟩) (f := 1) (e := 1) (n := 9) (R := ⟨0, (-1), 0, 10⟩) (B := false) (by decide) (by decide) (by decide) (by decide) (by decide)
    have h := ask_any ⟨10, 0, 1000⟩ ⟨0, (-1), 0, 10⟩ 1 1 9 W
    rw [h1, h2, h3] at h
    exact h)
  have HB_0 := Lib.hid (Below.refl w.heap.size w)
  go_enter Try.func10, Try.ntmps10
  go_wp2_with fail
  refine (HTN.out _).mono ?_
  rintro e w1 ⟨rfl, hb⟩
  have B_1 := Lib.hid (HB_0.out.trans (hb.mono HB_0.out.size))
  clear HB_0
  clear hb
  go_wp2_with fail
  refine (HNW.out _).mono ?_
  rintro e w2 ⟨rfl, hb⟩
  have B_2 := Lib.hid (B_1.out.trans (hb.mono B_1.out.size))
  clear B_1
  clear hb
  go_wp2_with fail
  refine (H1.out _).mono ?_
  rintro e w3 ⟨rfl, hb⟩
  have B_3 := Lib.hid (B_2.out.trans (hb.mono B_2.out.size))
  clear B_2
  clear hb
  have hbn : Below w3.heap.size w3 (w3.alloc (.cells #[.int .u64 1, .int .i64 2, .int .i64 15, .int .i64 0] 38)) := (Below.refl _ _).alloc (Nat.le_refl _) _
  have B_4 := Lib.hid (B_3.out.trans (hbn.mono B_3.out.size))
  clear B_3
  have a_4 : Hid (VtA (w3.alloc (.cells #[.int .u64 1, .int .i64 2, .int .i64 15, .int .i64 0] 38)) w3.heap.size ⟨1, 2, 15, 0⟩) := Lib.hid (VtA.new w3 ⟨1, 2, 15, 0⟩ _)
  clear hbn
  go_upto_region 2 with (fail)
  generalize w3.alloc (.cells #[.int .u64 1, .int .i64 2, .int .i64 15, .int .i64 0] 38) = w4 at *
  generalize w3.heap.size = ga at *
  go_cut [4, 5, 6] from 22 to 28 (fun v0 v1 v2 wx => ∃ gn : Nat, v0 = .pointer (some ⟨gn, 0, none⟩) ∧ v1 = .bool false ∧ v2 = .int .i64 0 ∧ Hid (VtA wx gn (⟨1, 2, 15, 0⟩)) ∧ Hid (Below w4.heap.size w4 wx))
  case first =>
    have hd0 : Below w4.heap.size w4 w4.drew := (Below.refl _ _).drew
    have HS3 : (fun W => (W.cell? ⟨ga, 0, none⟩ = some (.int .u64 1) ∧ W.cell? ⟨ga, 1, none⟩ = some (.int .i64 2) ∧ W.cell? ⟨ga, 2, none⟩ = some (.int .i64 15) ∧ W.cell? ⟨ga, 3, none⟩ = some (.int .i64 0))) w4.drew := (a_4.out.on hd0)
    have HSf : Hid (∀ W, Below w4.drew.heap.size w4.drew W → (fun W => (W.cell? ⟨ga, 0, none⟩ = some (.int .u64 1) ∧ W.cell? ⟨ga, 1, none⟩ = some (.int .i64 2) ∧ W.cell? ⟨ga, 2, none⟩ = some (.int .i64 15) ∧ W.cell? ⟨ga, 3, none⟩ = some (.int .i64 0))) W) := Lib.hid (fun W hb => ((a_4.out.on hd0).on hb))
    have HBf : Hid (∀ W, Below w4.drew.heap.size w4.drew W → Hid (Below w4.heap.size w4 W)) := Lib.hid (fun W hb => Lib.hid (hd0.trans (hb.mono hd0.size)))
    clear hd0
    refine p3_enter (.take 1 (.two 0 (.two 2 (.take 3 (.take 4 (.take 5 (.take 6 (.one 7 (.one 8 (.take 9 (.take 10 (.done))))))))) 7 (.one 2 (.take 3 (.take 4 (.take 5 (.take 6 (.one 8 (.take 9 (.take 10 (.done)))))))))) 7 (.one 0 (.one 2 (.take 3 (.take 4 (.take 5 (.take 6 (.one 8 (.take 9 (.take 10 (.done)))))))))))) (fun W => (W.cell? ⟨ga, 0, none⟩ = some (.int .u64 1) ∧ W.cell? ⟨ga, 1, none⟩ = some (.int .i64 2) ∧ W.cell? ⟨ga, 2, none⟩ = some (.int .i64 15) ∧ W.cell? ⟨ga, 3, none⟩ = some (.int .i64 0))) (by kernel_rfl) (by kernel_rfl) (by kernel_rfl) (fun _ _ d _ _ h => by cases d <;> exact h) HS3 ?_
    simp only [pick3, opAt, List.drop_succ_cons, List.drop_zero]
    generalize hwe : w4.drew = we at *
    clear hwe
    obtain ⟨B0, hB0⟩ : ∃ B, B = we.heap.size := ⟨_, rfl⟩
    rw [← hB0] at HSf HBf
    have hB_0 : Hid (Below B0 we we) := Lib.hid (Below.refl _ _)
    have hz_0 : B0 ≤ we.heap.size := Nat.le_of_eq hB0
    clear hB0 HS3
    iterate 1 (first | (refine' p3_yes ?_ (by rfl) ?_ ?_; rotate_left; (intro w' hS; (try dsimp only at hS); go_simp; try (with_reducible rfl)); simp only [Act.put, List.setIfInBounds_toArray, List.set_cons_zero, List.set_cons_succ]) | (refine p3_no (by rfl) ?_; simp only [Act.put, List.setIfInBounds_toArray, List.set_cons_zero, List.set_cons_succ]))
    refine p3_two ?_ ?_
    · intro KK hK
      go_simp
      refine (HTN.out _).mono ?_
      rintro e wc1 ⟨rfl, hbx⟩
      have hB_1 := Lib.hid (hB_0.out.trans (hbx.mono hz_0))
      have hz_1 : B0 ≤ wc1.heap.size := Nat.le_trans hz_0 hbx.size
      clear hbx hB_0
      refine hK.out _ _ (HSf.out _ hB_1.out) ?_
      clear hK
      try simp only [Act.put, List.setIfInBounds_toArray, List.set_cons_zero, List.set_cons_succ]
      refine p3_two ?_ ?_
      · intro KK hK
        go_simp
        refine (H2.out _).mono ?_
        rintro e wc2 ⟨rfl, hbx⟩
        have hB_2 := Lib.hid (hB_1.out.trans (hbx.mono hz_1))
        have hz_2 : B0 ≤ wc2.heap.size := Nat.le_trans hz_1 hbx.size
        clear hbx hB_1
        refine hK.out _ _ (HSf.out _ hB_2.out) ?_
        clear hK
        try simp only [Act.put, List.setIfInBounds_toArray, List.set_cons_zero, List.set_cons_succ]
        iterate 4 (first | (refine' p3_yes ?_ (by rfl) ?_ ?_; rotate_left; (intro w' hS; (try dsimp only at hS); go_simp; try (with_reducible rfl)); simp only [Act.put, List.setIfInBounds_toArray, List.set_cons_zero, List.set_cons_succ]) | (refine p3_no (by rfl) ?_; simp only [Act.put, List.setIfInBounds_toArray, List.set_cons_zero, List.set_cons_succ]))
        refine p3_one ?_
        intro KK hK
        go_simp
        have hbx : Below wc2.heap.size wc2 (wc2.alloc (.cells #[.int .u64 0, .int .i64 0, .int .i64 0, .int .i64 0] 38)) := (Below.refl _ _).alloc (Nat.le_refl _) _
        have hB_3 := Lib.hid (hB_2.out.trans (hbx.mono hz_2))
        have hz_3 : B0 ≤ (wc2.alloc (.cells #[.int .u64 0, .int .i64 0, .int .i64 0, .int .i64 0] 38)).heap.size := Nat.le_trans hz_2 hbx.size
        have hp_3 : Hid (VtW (wc2.alloc (.cells #[.int .u64 0, .int .i64 0, .int .i64 0, .int .i64 0] 38)) wc2.heap.size ⟨0, 0, 0, 0⟩) := Lib.hid (VtW.new wc2 ⟨0, 0, 0, 0⟩ _)
        clear hbx hB_2
        obtain ⟨wc3, ewc3⟩ : ∃ x, x = wc2.alloc (.cells #[.int .u64 0, .int .i64 0, .int .i64 0, .int .i64 0] 38) := ⟨_, rfl⟩
        rw [← ewc3] at hB_3 hz_3 hp_3 ⊢
        clear ewc3
        have hg : B0 ≤ wc2.heap.size := hz_2
        generalize wc2.heap.size = gn at *
        refine hK.out _ _ (HSf.out _ hB_3.out) ?_
        clear hK
        try simp only [Act.put, List.setIfInBounds_toArray, List.set_cons_zero, List.set_cons_succ]
        refine p3_one ?_
        intro KK hK
        obtain ⟨⟨x0, x1, x2, x3⟩, xf⟩ := hp_3.out
        try simp only at x0 x1 x2 x3
        go_simp
        have hB_s := Lib.hid (below_set4 hB_3.out hg (.int .u64 1) (.int .i64 2) (.int .i64 15) (.int .i64 0))
        have hp_s := Lib.hid (hp_3.out.set (⟨1, 2, 15, 0⟩))
        clear x0 x1 x2 x3 xf hp_3 hB_3
        refine hK.out _ _ (HSf.out _ hB_s.out) ?_
        clear hK
        try simp only [Act.put, List.setIfInBounds_toArray, List.set_cons_zero, List.set_cons_succ]
        iterate 2 (first | (refine' p3_yes ?_ (by rfl) ?_ ?_; rotate_left; (intro w' hS; (try dsimp only at hS); go_simp; try (with_reducible rfl)); simp only [Act.put, List.setIfInBounds_toArray, List.set_cons_zero, List.set_cons_succ]) | (refine p3_no (by rfl) ?_; simp only [Act.put, List.setIfInBounds_toArray, List.set_cons_zero, List.set_cons_succ]))
        refine p3_done ?_
        go_wp2_with fail
        first | exact ⟨gn, rfl, rfl, rfl, Lib.hid hp_s.out.1, HBf.out _ hB_s.out⟩ | (go_meet; exact ⟨gn, rfl, rfl, rfl, Lib.hid hp_s.out.1, HBf.out _ hB_s.out⟩)
      · intro KK hK
        go_simp
        have hbx : Below wc1.heap.size wc1 (wc1.alloc (.cells #[.int .u64 0, .int .i64 0, .int .i64 0, .int .i64 0] 38)) := (Below.refl _ _).alloc (Nat.le_refl _) _
        have hB_2 := Lib.hid (hB_1.out.trans (hbx.mono hz_1))
        have hz_2 : B0 ≤ (wc1.alloc (.cells #[.int .u64 0, .int .i64 0, .int .i64 0, .int .i64 0] 38)).heap.size := Nat.le_trans hz_1 hbx.size
        have hp_2 : Hid (VtW (wc1.alloc (.cells #[.int .u64 0, .int .i64 0, .int .i64 0, .int .i64 0] 38)) wc1.heap.size ⟨0, 0, 0, 0⟩) := Lib.hid (VtW.new wc1 ⟨0, 0, 0, 0⟩ _)
        clear hbx hB_1
        obtain ⟨wc2, ewc2⟩ : ∃ x, x = wc1.alloc (.cells #[.int .u64 0, .int .i64 0, .int .i64 0, .int .i64 0] 38) := ⟨_, rfl⟩
        rw [← ewc2] at hB_2 hz_2 hp_2 ⊢
        clear ewc2
        have hg : B0 ≤ wc1.heap.size := hz_1
        generalize wc1.heap.size = gn at *
        refine hK.out _ _ (HSf.out _ hB_2.out) ?_
        clear hK
        try simp only [Act.put, List.setIfInBounds_toArray, List.set_cons_zero, List.set_cons_succ]
        refine p3_one ?_
        intro KK hK
        go_simp
        refine (H2.out _).mono ?_
        rintro e wc3 ⟨rfl, hbx⟩
        have hB_3 := Lib.hid (hB_2.out.trans (hbx.mono hz_2))
        have hz_3 : B0 ≤ wc3.heap.size := Nat.le_trans hz_2 hbx.size
        have hp_3 := Lib.hid (hp_2.out.on hbx)
        clear hbx hB_2 hp_2
        refine hK.out _ _ (HSf.out _ hB_3.out) ?_
        clear hK
        try simp only [Act.put, List.setIfInBounds_toArray, List.set_cons_zero, List.set_cons_succ]
        iterate 4 (first | (refine' p3_yes ?_ (by rfl) ?_ ?_; rotate_left; (intro w' hS; (try dsimp only at hS); go_simp; try (with_reducible rfl)); simp only [Act.put, List.setIfInBounds_toArray, List.set_cons_zero, List.set_cons_succ]) | (refine p3_no (by rfl) ?_; simp only [Act.put, List.setIfInBounds_toArray, List.set_cons_zero, List.set_cons_succ]))
        refine p3_one ?_
        intro KK hK
        obtain ⟨⟨x0, x1, x2, x3⟩, xf⟩ := hp_3.out
        try simp only at x0 x1 x2 x3
        go_simp
        have hB_s := Lib.hid (below_set4 hB_3.out hg (.int .u64 1) (.int .i64 2) (.int .i64 15) (.int .i64 0))
        have hp_s := Lib.hid (hp_3.out.set (⟨1, 2, 15, 0⟩))
        clear x0 x1 x2 x3 xf hp_3 hB_3
        refine hK.out _ _ (HSf.out _ hB_s.out) ?_
        clear hK
        try simp only [Act.put, List.setIfInBounds_toArray, List.set_cons_zero, List.set_cons_succ]
        iterate 2 (first | (refine' p3_yes ?_ (by rfl) ?_ ?_; rotate_left; (intro w' hS; (try dsimp only at hS); go_simp; try (with_reducible rfl)); simp only [Act.put, List.setIfInBounds_toArray, List.set_cons_zero, List.set_cons_succ]) | (refine p3_no (by rfl) ?_; simp only [Act.put, List.setIfInBounds_toArray, List.set_cons_zero, List.set_cons_succ]))
        refine p3_done ?_
        go_wp2_with fail
        first | exact ⟨gn, rfl, rfl, rfl, Lib.hid hp_s.out.1, HBf.out _ hB_s.out⟩ | (go_meet; exact ⟨gn, rfl, rfl, rfl, Lib.hid hp_s.out.1, HBf.out _ hB_s.out⟩)
    · intro KK hK
      go_simp
      have hbx : Below we.heap.size we (we.alloc (.cells #[.int .u64 0, .int .i64 0, .int .i64 0, .int .i64 0] 38)) := (Below.refl _ _).alloc (Nat.le_refl _) _
      have hB_1 := Lib.hid (hB_0.out.trans (hbx.mono hz_0))
      have hz_1 : B0 ≤ (we.alloc (.cells #[.int .u64 0, .int .i64 0, .int .i64 0, .int .i64 0] 38)).heap.size := Nat.le_trans hz_0 hbx.size
      have hp_1 : Hid (VtW (we.alloc (.cells #[.int .u64 0, .int .i64 0, .int .i64 0, .int .i64 0] 38)) we.heap.size ⟨0, 0, 0, 0⟩) := Lib.hid (VtW.new we ⟨0, 0, 0, 0⟩ _)
      clear hbx hB_0
      obtain ⟨wc1, ewc1⟩ : ∃ x, x = we.alloc (.cells #[.int .u64 0, .int .i64 0, .int .i64 0, .int .i64 0] 38) := ⟨_, rfl⟩
      rw [← ewc1] at hB_1 hz_1 hp_1 ⊢
      clear ewc1
      have hg : B0 ≤ we.heap.size := hz_0
      generalize we.heap.size = gn at *
      refine hK.out _ _ (HSf.out _ hB_1.out) ?_
      clear hK
      try simp only [Act.put, List.setIfInBounds_toArray, List.set_cons_zero, List.set_cons_succ]
      refine p3_one ?_
      intro KK hK
      go_simp
      refine (HTN.out _).mono ?_
      rintro e wc2 ⟨rfl, hbx⟩
      have hB_2 := Lib.hid (hB_1.out.trans (hbx.mono hz_1))
      have hz_2 : B0 ≤ wc2.heap.size := Nat.le_trans hz_1 hbx.size
      have hp_2 := Lib.hid (hp_1.out.on hbx)
      clear hbx hB_1 hp_1
      refine hK.out _ _ (HSf.out _ hB_2.out) ?_
      clear hK
      try simp only [Act.put, List.setIfInBounds_toArray, List.set_cons_zero, List.set_cons_succ]
      refine p3_one ?_
      intro KK hK
      go_simp
      refine (H2.out _).mono ?_
      rintro e wc3 ⟨rfl, hbx⟩
      have hB_3 := Lib.hid (hB_2.out.trans (hbx.mono hz_2))
      have hz_3 : B0 ≤ wc3.heap.size := Nat.le_trans hz_2 hbx.size
      have hp_3 := Lib.hid (hp_2.out.on hbx)
      clear hbx hB_2 hp_2
      refine hK.out _ _ (HSf.out _ hB_3.out) ?_
      clear hK
      try simp only [Act.put, List.setIfInBounds_toArray, List.set_cons_zero, List.set_cons_succ]
      iterate 4 (first | (refine' p3_yes ?_ (by rfl) ?_ ?_; rotate_left; (intro w' hS; (try dsimp only at hS); go_simp; try (with_reducible rfl)); simp only [Act.put, List.setIfInBounds_toArray, List.set_cons_zero, List.set_cons_succ]) | (refine p3_no (by rfl) ?_; simp only [Act.put, List.setIfInBounds_toArray, List.set_cons_zero, List.set_cons_succ]))
      refine p3_one ?_
      intro KK hK
      obtain ⟨⟨x0, x1, x2, x3⟩, xf⟩ := hp_3.out
      try simp only at x0 x1 x2 x3
      go_simp
      have hB_s := Lib.hid (below_set4 hB_3.out hg (.int .u64 1) (.int .i64 2) (.int .i64 15) (.int .i64 0))
      have hp_s := Lib.hid (hp_3.out.set (⟨1, 2, 15, 0⟩))
      clear x0 x1 x2 x3 xf hp_3 hB_3
      refine hK.out _ _ (HSf.out _ hB_s.out) ?_
      clear hK
      try simp only [Act.put, List.setIfInBounds_toArray, List.set_cons_zero, List.set_cons_succ]
      iterate 2 (first | (refine' p3_yes ?_ (by rfl) ?_ ?_; rotate_left; (intro w' hS; (try dsimp only at hS); go_simp; try (with_reducible rfl)); simp only [Act.put, List.setIfInBounds_toArray, List.set_cons_zero, List.set_cons_succ]) | (refine p3_no (by rfl) ?_; simp only [Act.put, List.setIfInBounds_toArray, List.set_cons_zero, List.set_cons_succ]))
      refine p3_done ?_
      go_wp2_with fail
      first | exact ⟨gn, rfl, rfl, rfl, Lib.hid hp_s.out.1, HBf.out _ hB_s.out⟩ | (go_meet; exact ⟨gn, rfl, rfl, rfl, Lib.hid hp_s.out.1, HBf.out _ hB_s.out⟩)
  case rest =>
    obtain ⟨w5, ew5⟩ : ∃ x, x = wc := ⟨_, rfl⟩
    subst ew5
    obtain ⟨gb, rfl, rfl, rfl, hn, hb⟩ := hcut
    have B_5 := Lib.hid (B_4.out.trans (hb.out.mono B_4.out.size))
    have a_5 := Lib.hid (a_4.out.on hb.out)
    clear B_4 a_4
    clear hb
    have Hb_n := hn
    clear hn
    go_upto_region 3 with (fail)
    go_cut [7, 8, 9] from 29 to 35 (fun v0 v1 v2 wx => ∃ gn : Nat, v0 = .pointer (some ⟨gn, 0, none⟩) ∧ v1 = .bool true ∧ v2 = .int .i64 0 ∧ Hid (VtA wx gn (⟨2, 3, 25, 0⟩)) ∧ Hid (Below w5.heap.size w5 wx))
    case first =>
      have hd0 : Below w5.heap.size w5 w5.drew := (Below.refl _ _).drew
      have HS3 : (fun W => (W.cell? ⟨gb, 0, none⟩ = some (.int .u64 1) ∧ W.cell? ⟨gb, 1, none⟩ = some (.int .i64 2) ∧ W.cell? ⟨gb, 2, none⟩ = some (.int .i64 15) ∧ W.cell? ⟨gb, 3, none⟩ = some (.int .i64 0))) w5.drew := (Hb_n.out.on hd0)
      have HSf : Hid (∀ W, Below w5.drew.heap.size w5.drew W → (fun W => (W.cell? ⟨gb, 0, none⟩ = some (.int .u64 1) ∧ W.cell? ⟨gb, 1, none⟩ = some (.int .i64 2) ∧ W.cell? ⟨gb, 2, none⟩ = some (.int .i64 15) ∧ W.cell? ⟨gb, 3, none⟩ = some (.int .i64 0))) W) := Lib.hid (fun W hb => ((Hb_n.out.on hd0).on hb))
      have HBf : Hid (∀ W, Below w5.drew.heap.size w5.drew W → Hid (Below w5.heap.size w5 W)) := Lib.hid (fun W hb => Lib.hid (hd0.trans (hb.mono hd0.size)))
      clear hd0
      refine p3_enter (.take 1 (.two 0 (.two 2 (.take 3 (.take 4 (.take 5 (.take 6 (.one 7 (.one 8 (.take 9 (.take 10 (.done))))))))) 7 (.one 2 (.take 3 (.take 4 (.take 5 (.take 6 (.one 8 (.take 9 (.take 10 (.done)))))))))) 7 (.one 0 (.one 2 (.take 3 (.take 4 (.take 5 (.take 6 (.one 8 (.take 9 (.take 10 (.done)))))))))))) (fun W => (W.cell? ⟨gb, 0, none⟩ = some (.int .u64 1) ∧ W.cell? ⟨gb, 1, none⟩ = some (.int .i64 2) ∧ W.cell? ⟨gb, 2, none⟩ = some (.int .i64 15) ∧ W.cell? ⟨gb, 3, none⟩ = some (.int .i64 0))) (by kernel_rfl) (by kernel_rfl) (by kernel_rfl) (fun _ _ d _ _ h => by cases d <;> exact h) HS3 ?_
      simp only [pick3, opAt, List.drop_succ_cons, List.drop_zero]
      generalize hwe : w5.drew = we at *
      clear hwe
      obtain ⟨B0, hB0⟩ : ∃ B, B = we.heap.size := ⟨_, rfl⟩
      rw [← hB0] at HSf HBf
      have hB_0 : Hid (Below B0 we we) := Lib.hid (Below.refl _ _)
      have hz_0 : B0 ≤ we.heap.size := Nat.le_of_eq hB0
      clear hB0 HS3
      iterate 1 (first | (refine' p3_yes ?_ (by rfl) ?_ ?_; rotate_left; (intro w' hS; (try dsimp only at hS); go_simp; try (with_reducible rfl)); simp only [Act.put, List.setIfInBounds_toArray, List.set_cons_zero, List.set_cons_succ]) | (refine p3_no (by rfl) ?_; simp only [Act.put, List.setIfInBounds_toArray, List.set_cons_zero, List.set_cons_succ]))
      refine p3_two ?_ ?_
      · intro KK hK
        go_simp
        refine (HTN.out _).mono ?_
        rintro e wc1 ⟨rfl, hbx⟩
        have hB_1 := Lib.hid (hB_0.out.trans (hbx.mono hz_0))
        have hz_1 : B0 ≤ wc1.heap.size := Nat.le_trans hz_0 hbx.size
        clear hbx hB_0
        refine hK.out _ _ (HSf.out _ hB_1.out) ?_
        clear hK
        try simp only [Act.put, List.setIfInBounds_toArray, List.set_cons_zero, List.set_cons_succ]
        refine p3_two ?_ ?_
        · intro KK hK
          go_simp
          refine (H3.out _).mono ?_
          rintro e wc2 ⟨rfl, hbx⟩
          have hB_2 := Lib.hid (hB_1.out.trans (hbx.mono hz_1))
          have hz_2 : B0 ≤ wc2.heap.size := Nat.le_trans hz_1 hbx.size
          clear hbx hB_1
          refine hK.out _ _ (HSf.out _ hB_2.out) ?_
          clear hK
          try simp only [Act.put, List.setIfInBounds_toArray, List.set_cons_zero, List.set_cons_succ]
          iterate 4 (first | (refine' p3_yes ?_ (by rfl) ?_ ?_; rotate_left; (intro w' hS; (try dsimp only at hS); go_simp; try (with_reducible rfl)); simp only [Act.put, List.setIfInBounds_toArray, List.set_cons_zero, List.set_cons_succ]) | (refine p3_no (by rfl) ?_; simp only [Act.put, List.setIfInBounds_toArray, List.set_cons_zero, List.set_cons_succ]))
          refine p3_one ?_
          intro KK hK
          go_simp
          have hbx : Below wc2.heap.size wc2 (wc2.alloc (.cells #[.int .u64 0, .int .i64 0, .int .i64 0, .int .i64 0] 38)) := (Below.refl _ _).alloc (Nat.le_refl _) _
          have hB_3 := Lib.hid (hB_2.out.trans (hbx.mono hz_2))
          have hz_3 : B0 ≤ (wc2.alloc (.cells #[.int .u64 0, .int .i64 0, .int .i64 0, .int .i64 0] 38)).heap.size := Nat.le_trans hz_2 hbx.size
          have hp_3 : Hid (VtW (wc2.alloc (.cells #[.int .u64 0, .int .i64 0, .int .i64 0, .int .i64 0] 38)) wc2.heap.size ⟨0, 0, 0, 0⟩) := Lib.hid (VtW.new wc2 ⟨0, 0, 0, 0⟩ _)
          clear hbx hB_2
          obtain ⟨wc3, ewc3⟩ : ∃ x, x = wc2.alloc (.cells #[.int .u64 0, .int .i64 0, .int .i64 0, .int .i64 0] 38) := ⟨_, rfl⟩
          rw [← ewc3] at hB_3 hz_3 hp_3 ⊢
          clear ewc3
          have hg : B0 ≤ wc2.heap.size := hz_2
          generalize wc2.heap.size = gn at *
          refine hK.out _ _ (HSf.out _ hB_3.out) ?_
          clear hK
          try simp only [Act.put, List.setIfInBounds_toArray, List.set_cons_zero, List.set_cons_succ]
          refine p3_one ?_
          intro KK hK
          obtain ⟨⟨x0, x1, x2, x3⟩, xf⟩ := hp_3.out
          try simp only at x0 x1 x2 x3
          go_simp
          have hB_s := Lib.hid (below_set4 hB_3.out hg (.int .u64 2) (.int .i64 3) (.int .i64 25) (.int .i64 0))
          have hp_s := Lib.hid (hp_3.out.set (⟨2, 3, 25, 0⟩))
          clear x0 x1 x2 x3 xf hp_3 hB_3
          refine hK.out _ _ (HSf.out _ hB_s.out) ?_
          clear hK
          try simp only [Act.put, List.setIfInBounds_toArray, List.set_cons_zero, List.set_cons_succ]
          iterate 2 (first | (refine' p3_yes ?_ (by rfl) ?_ ?_; rotate_left; (intro w' hS; (try dsimp only at hS); go_simp; try (with_reducible rfl)); simp only [Act.put, List.setIfInBounds_toArray, List.set_cons_zero, List.set_cons_succ]) | (refine p3_no (by rfl) ?_; simp only [Act.put, List.setIfInBounds_toArray, List.set_cons_zero, List.set_cons_succ]))
          refine p3_done ?_
          go_wp2_with fail
          first | exact ⟨gn, rfl, rfl, rfl, Lib.hid hp_s.out.1, HBf.out _ hB_s.out⟩ | (go_meet; exact ⟨gn, rfl, rfl, rfl, Lib.hid hp_s.out.1, HBf.out _ hB_s.out⟩)
        · intro KK hK
          go_simp
          have hbx : Below wc1.heap.size wc1 (wc1.alloc (.cells #[.int .u64 0, .int .i64 0, .int .i64 0, .int .i64 0] 38)) := (Below.refl _ _).alloc (Nat.le_refl _) _
          have hB_2 := Lib.hid (hB_1.out.trans (hbx.mono hz_1))
          have hz_2 : B0 ≤ (wc1.alloc (.cells #[.int .u64 0, .int .i64 0, .int .i64 0, .int .i64 0] 38)).heap.size := Nat.le_trans hz_1 hbx.size
          have hp_2 : Hid (VtW (wc1.alloc (.cells #[.int .u64 0, .int .i64 0, .int .i64 0, .int .i64 0] 38)) wc1.heap.size ⟨0, 0, 0, 0⟩) := Lib.hid (VtW.new wc1 ⟨0, 0, 0, 0⟩ _)
          clear hbx hB_1
          obtain ⟨wc2, ewc2⟩ : ∃ x, x = wc1.alloc (.cells #[.int .u64 0, .int .i64 0, .int .i64 0, .int .i64 0] 38) := ⟨_, rfl⟩
          rw [← ewc2] at hB_2 hz_2 hp_2 ⊢
          clear ewc2
          have hg : B0 ≤ wc1.heap.size := hz_1
          generalize wc1.heap.size = gn at *
          refine hK.out _ _ (HSf.out _ hB_2.out) ?_
          clear hK
          try simp only [Act.put, List.setIfInBounds_toArray, List.set_cons_zero, List.set_cons_succ]
          refine p3_one ?_
          intro KK hK
          go_simp
          refine (H3.out _).mono ?_
          rintro e wc3 ⟨rfl, hbx⟩
          have hB_3 := Lib.hid (hB_2.out.trans (hbx.mono hz_2))
          have hz_3 : B0 ≤ wc3.heap.size := Nat.le_trans hz_2 hbx.size
          have hp_3 := Lib.hid (hp_2.out.on hbx)
          clear hbx hB_2 hp_2
          refine hK.out _ _ (HSf.out _ hB_3.out) ?_
          clear hK
          try simp only [Act.put, List.setIfInBounds_toArray, List.set_cons_zero, List.set_cons_succ]
          iterate 4 (first | (refine' p3_yes ?_ (by rfl) ?_ ?_; rotate_left; (intro w' hS; (try dsimp only at hS); go_simp; try (with_reducible rfl)); simp only [Act.put, List.setIfInBounds_toArray, List.set_cons_zero, List.set_cons_succ]) | (refine p3_no (by rfl) ?_; simp only [Act.put, List.setIfInBounds_toArray, List.set_cons_zero, List.set_cons_succ]))
          refine p3_one ?_
          intro KK hK
          obtain ⟨⟨x0, x1, x2, x3⟩, xf⟩ := hp_3.out
          try simp only at x0 x1 x2 x3
          go_simp
          have hB_s := Lib.hid (below_set4 hB_3.out hg (.int .u64 2) (.int .i64 3) (.int .i64 25) (.int .i64 0))
          have hp_s := Lib.hid (hp_3.out.set (⟨2, 3, 25, 0⟩))
          clear x0 x1 x2 x3 xf hp_3 hB_3
          refine hK.out _ _ (HSf.out _ hB_s.out) ?_
          clear hK
          try simp only [Act.put, List.setIfInBounds_toArray, List.set_cons_zero, List.set_cons_succ]
          iterate 2 (first | (refine' p3_yes ?_ (by rfl) ?_ ?_; rotate_left; (intro w' hS; (try dsimp only at hS); go_simp; try (with_reducible rfl)); simp only [Act.put, List.setIfInBounds_toArray, List.set_cons_zero, List.set_cons_succ]) | (refine p3_no (by rfl) ?_; simp only [Act.put, List.setIfInBounds_toArray, List.set_cons_zero, List.set_cons_succ]))
          refine p3_done ?_
          go_wp2_with fail
          first | exact ⟨gn, rfl, rfl, rfl, Lib.hid hp_s.out.1, HBf.out _ hB_s.out⟩ | (go_meet; exact ⟨gn, rfl, rfl, rfl, Lib.hid hp_s.out.1, HBf.out _ hB_s.out⟩)
      · intro KK hK
        go_simp
        have hbx : Below we.heap.size we (we.alloc (.cells #[.int .u64 0, .int .i64 0, .int .i64 0, .int .i64 0] 38)) := (Below.refl _ _).alloc (Nat.le_refl _) _
        have hB_1 := Lib.hid (hB_0.out.trans (hbx.mono hz_0))
        have hz_1 : B0 ≤ (we.alloc (.cells #[.int .u64 0, .int .i64 0, .int .i64 0, .int .i64 0] 38)).heap.size := Nat.le_trans hz_0 hbx.size
        have hp_1 : Hid (VtW (we.alloc (.cells #[.int .u64 0, .int .i64 0, .int .i64 0, .int .i64 0] 38)) we.heap.size ⟨0, 0, 0, 0⟩) := Lib.hid (VtW.new we ⟨0, 0, 0, 0⟩ _)
        clear hbx hB_0
        obtain ⟨wc1, ewc1⟩ : ∃ x, x = we.alloc (.cells #[.int .u64 0, .int .i64 0, .int .i64 0, .int .i64 0] 38) := ⟨_, rfl⟩
        rw [← ewc1] at hB_1 hz_1 hp_1 ⊢
        clear ewc1
        have hg : B0 ≤ we.heap.size := hz_0
        generalize we.heap.size = gn at *
        refine hK.out _ _ (HSf.out _ hB_1.out) ?_
        clear hK
        try simp only [Act.put, List.setIfInBounds_toArray, List.set_cons_zero, List.set_cons_succ]
        refine p3_one ?_
        intro KK hK
        go_simp
        refine (HTN.out _).mono ?_
        rintro e wc2 ⟨rfl, hbx⟩
        have hB_2 := Lib.hid (hB_1.out.trans (hbx.mono hz_1))
        have hz_2 : B0 ≤ wc2.heap.size := Nat.le_trans hz_1 hbx.size
        have hp_2 := Lib.hid (hp_1.out.on hbx)
        clear hbx hB_1 hp_1
        refine hK.out _ _ (HSf.out _ hB_2.out) ?_
        clear hK
        try simp only [Act.put, List.setIfInBounds_toArray, List.set_cons_zero, List.set_cons_succ]
        refine p3_one ?_
        intro KK hK
        go_simp
        refine (H3.out _).mono ?_
        rintro e wc3 ⟨rfl, hbx⟩
        have hB_3 := Lib.hid (hB_2.out.trans (hbx.mono hz_2))
        have hz_3 : B0 ≤ wc3.heap.size := Nat.le_trans hz_2 hbx.size
        have hp_3 := Lib.hid (hp_2.out.on hbx)
        clear hbx hB_2 hp_2
        refine hK.out _ _ (HSf.out _ hB_3.out) ?_
        clear hK
        try simp only [Act.put, List.setIfInBounds_toArray, List.set_cons_zero, List.set_cons_succ]
        iterate 4 (first | (refine' p3_yes ?_ (by rfl) ?_ ?_; rotate_left; (intro w' hS; (try dsimp only at hS); go_simp; try (with_reducible rfl)); simp only [Act.put, List.setIfInBounds_toArray, List.set_cons_zero, List.set_cons_succ]) | (refine p3_no (by rfl) ?_; simp only [Act.put, List.setIfInBounds_toArray, List.set_cons_zero, List.set_cons_succ]))
        refine p3_one ?_
        intro KK hK
        obtain ⟨⟨x0, x1, x2, x3⟩, xf⟩ := hp_3.out
        try simp only at x0 x1 x2 x3
        go_simp
        have hB_s := Lib.hid (below_set4 hB_3.out hg (.int .u64 2) (.int .i64 3) (.int .i64 25) (.int .i64 0))
        have hp_s := Lib.hid (hp_3.out.set (⟨2, 3, 25, 0⟩))
        clear x0 x1 x2 x3 xf hp_3 hB_3
        refine hK.out _ _ (HSf.out _ hB_s.out) ?_
        clear hK
        try simp only [Act.put, List.setIfInBounds_toArray, List.set_cons_zero, List.set_cons_succ]
        iterate 2 (first | (refine' p3_yes ?_ (by rfl) ?_ ?_; rotate_left; (intro w' hS; (try dsimp only at hS); go_simp; try (with_reducible rfl)); simp only [Act.put, List.setIfInBounds_toArray, List.set_cons_zero, List.set_cons_succ]) | (refine p3_no (by rfl) ?_; simp only [Act.put, List.setIfInBounds_toArray, List.set_cons_zero, List.set_cons_succ]))
        refine p3_done ?_
        go_wp2_with fail
        first | exact ⟨gn, rfl, rfl, rfl, Lib.hid hp_s.out.1, HBf.out _ hB_s.out⟩ | (go_meet; exact ⟨gn, rfl, rfl, rfl, Lib.hid hp_s.out.1, HBf.out _ hB_s.out⟩)
    case rest =>
      obtain ⟨w6, ew6⟩ : ∃ x, x = wc := ⟨_, rfl⟩
      subst ew6
      obtain ⟨gc, rfl, rfl, rfl, hn, hb⟩ := hcut
      have B_6 := Lib.hid (B_5.out.trans (hb.out.mono B_5.out.size))
      have a_6 := Lib.hid (a_5.out.on hb.out)
      have b_6 := Lib.hid (Hb_n.out.on hb.out)
      clear B_5 a_5 Hb_n
      clear hb
      have Hc_n := hn
      clear hn
      go_wp2_with fail
      refine (HTN.out _).mono ?_
      rintro e w7 ⟨rfl, hb⟩
      have B_7 := Lib.hid (B_6.out.trans (hb.mono B_6.out.size))
      have a_7 := Lib.hid (a_6.out.on hb)
      have b_7 := Lib.hid (b_6.out.on hb)
      have c_7 := Lib.hid (Hc_n.out.on hb)
      clear B_6 a_6 b_6 Hc_n
      clear hb
      go_wp2_with fail
      refine (H4.out _).mono ?_
      rintro e w8 ⟨rfl, hb⟩
      have B_8 := Lib.hid (B_7.out.trans (hb.mono B_7.out.size))
      have a_8 := Lib.hid (a_7.out.on hb)
      have b_8 := Lib.hid (b_7.out.on hb)
      have c_8 := Lib.hid (c_7.out.on hb)
      clear B_7 a_7 b_7 c_7
      clear hb
      have hbn : Below w8.heap.size w8 (w8.alloc (.cells #[.int .u64 0, .int .i64 (-1), .int .i64 0, .int .i64 10] 38)) := (Below.refl _ _).alloc (Nat.le_refl _) _
      have B_9 := Lib.hid (B_8.out.trans (hbn.mono B_8.out.size))
      have a_9 := Lib.hid (a_8.out.on hbn)
      have b_9 := Lib.hid (b_8.out.on hbn)
      have c_9 := Lib.hid (c_8.out.on hbn)
      clear B_8 a_8 b_8 c_8
      have r_9 : Hid (VtA (w8.alloc (.cells #[.int .u64 0, .int .i64 (-1), .int .i64 0, .int .i64 10] 38)) w8.heap.size ⟨0, (-1), 0, 10⟩) := Lib.hid (VtA.new w8 ⟨0, (-1), 0, 10⟩ _)
      clear hbn
      go_upto_region 5 with (fail)
      generalize w8.alloc (.cells #[.int .u64 0, .int .i64 (-1), .int .i64 0, .int .i64 10] 38) = w9 at *
      generalize w8.heap.size = gr at *
      go_cut [12, 13, 14] from 41 to 47 (fun v0 v1 v2 wx => ∃ gn : Nat, v0 = .pointer (some ⟨gn, 0, none⟩) ∧ v1 = .bool false ∧ v2 = .int .i64 0 ∧ Hid (VtA wx gn (⟨0, (-1), 0, 10⟩)) ∧ Hid (Below w9.heap.size w9 wx))
      case first =>
        have hd0 : Below w9.heap.size w9 w9.drew := (Below.refl _ _).drew
        have HS3 : (fun W => (W.cell? ⟨gr, 0, none⟩ = some (.int .u64 0) ∧ W.cell? ⟨gr, 1, none⟩ = some (.int .i64 (-1)) ∧ W.cell? ⟨gr, 2, none⟩ = some (.int .i64 0) ∧ W.cell? ⟨gr, 3, none⟩ = some (.int .i64 10))) w9.drew := (r_9.out.on hd0)
        have HSf : Hid (∀ W, Below w9.drew.heap.size w9.drew W → (fun W => (W.cell? ⟨gr, 0, none⟩ = some (.int .u64 0) ∧ W.cell? ⟨gr, 1, none⟩ = some (.int .i64 (-1)) ∧ W.cell? ⟨gr, 2, none⟩ = some (.int .i64 0) ∧ W.cell? ⟨gr, 3, none⟩ = some (.int .i64 10))) W) := Lib.hid (fun W hb => ((r_9.out.on hd0).on hb))
        have HBf : Hid (∀ W, Below w9.drew.heap.size w9.drew W → Hid (Below w9.heap.size w9 W)) := Lib.hid (fun W hb => Lib.hid (hd0.trans (hb.mono hd0.size)))
        clear hd0
        refine p3_enter (.take 1 (.two 0 (.two 2 (.take 3 (.take 4 (.take 5 (.take 6 (.one 7 (.one 8 (.take 9 (.take 10 (.done))))))))) 7 (.one 2 (.take 3 (.take 4 (.take 5 (.take 6 (.one 8 (.take 9 (.take 10 (.done)))))))))) 7 (.one 0 (.one 2 (.take 3 (.take 4 (.take 5 (.take 6 (.one 8 (.take 9 (.take 10 (.done)))))))))))) (fun W => (W.cell? ⟨gr, 0, none⟩ = some (.int .u64 0) ∧ W.cell? ⟨gr, 1, none⟩ = some (.int .i64 (-1)) ∧ W.cell? ⟨gr, 2, none⟩ = some (.int .i64 0) ∧ W.cell? ⟨gr, 3, none⟩ = some (.int .i64 10))) (by kernel_rfl) (by kernel_rfl) (by kernel_rfl) (fun _ _ d _ _ h => by cases d <;> exact h) HS3 ?_
        simp only [pick3, opAt, List.drop_succ_cons, List.drop_zero]
        generalize hwe : w9.drew = we at *
        clear hwe
        obtain ⟨B0, hB0⟩ : ∃ B, B = we.heap.size := ⟨_, rfl⟩
        rw [← hB0] at HSf HBf
        have hB_0 : Hid (Below B0 we we) := Lib.hid (Below.refl _ _)
        have hz_0 : B0 ≤ we.heap.size := Nat.le_of_eq hB0
        clear hB0 HS3
        iterate 1 (first | (refine' p3_yes ?_ (by rfl) ?_ ?_; rotate_left; (intro w' hS; (try dsimp only at hS); go_simp; try (with_reducible rfl)); simp only [Act.put, List.setIfInBounds_toArray, List.set_cons_zero, List.set_cons_succ]) | (refine p3_no (by rfl) ?_; simp only [Act.put, List.setIfInBounds_toArray, List.set_cons_zero, List.set_cons_succ]))
        refine p3_two ?_ ?_
        · intro KK hK
          go_simp
          refine (HTN.out _).mono ?_
          rintro e wc1 ⟨rfl, hbx⟩
          have hB_1 := Lib.hid (hB_0.out.trans (hbx.mono hz_0))
          have hz_1 : B0 ≤ wc1.heap.size := Nat.le_trans hz_0 hbx.size
          clear hbx hB_0
          refine hK.out _ _ (HSf.out _ hB_1.out) ?_
          clear hK
          try simp only [Act.put, List.setIfInBounds_toArray, List.set_cons_zero, List.set_cons_succ]
          refine p3_two ?_ ?_
          · intro KK hK
            go_simp
            refine (H5.out _).mono ?_
            rintro e wc2 ⟨rfl, hbx⟩
            have hB_2 := Lib.hid (hB_1.out.trans (hbx.mono hz_1))
            have hz_2 : B0 ≤ wc2.heap.size := Nat.le_trans hz_1 hbx.size
            clear hbx hB_1
            refine hK.out _ _ (HSf.out _ hB_2.out) ?_
            clear hK
            try simp only [Act.put, List.setIfInBounds_toArray, List.set_cons_zero, List.set_cons_succ]
            iterate 4 (first | (refine' p3_yes ?_ (by rfl) ?_ ?_; rotate_left; (intro w' hS; (try dsimp only at hS); go_simp; try (with_reducible rfl)); simp only [Act.put, List.setIfInBounds_toArray, List.set_cons_zero, List.set_cons_succ]) | (refine p3_no (by rfl) ?_; simp only [Act.put, List.setIfInBounds_toArray, List.set_cons_zero, List.set_cons_succ]))
            refine p3_one ?_
            intro KK hK
            go_simp
            have hbx : Below wc2.heap.size wc2 (wc2.alloc (.cells #[.int .u64 0, .int .i64 0, .int .i64 0, .int .i64 0] 38)) := (Below.refl _ _).alloc (Nat.le_refl _) _
            have hB_3 := Lib.hid (hB_2.out.trans (hbx.mono hz_2))
            have hz_3 : B0 ≤ (wc2.alloc (.cells #[.int .u64 0, .int .i64 0, .int .i64 0, .int .i64 0] 38)).heap.size := Nat.le_trans hz_2 hbx.size
            have hp_3 : Hid (VtW (wc2.alloc (.cells #[.int .u64 0, .int .i64 0, .int .i64 0, .int .i64 0] 38)) wc2.heap.size ⟨0, 0, 0, 0⟩) := Lib.hid (VtW.new wc2 ⟨0, 0, 0, 0⟩ _)
            clear hbx hB_2
            obtain ⟨wc3, ewc3⟩ : ∃ x, x = wc2.alloc (.cells #[.int .u64 0, .int .i64 0, .int .i64 0, .int .i64 0] 38) := ⟨_, rfl⟩
            rw [← ewc3] at hB_3 hz_3 hp_3 ⊢
            clear ewc3
            have hg : B0 ≤ wc2.heap.size := hz_2
            generalize wc2.heap.size = gn at *
            refine hK.out _ _ (HSf.out _ hB_3.out) ?_
            clear hK
            try simp only [Act.put, List.setIfInBounds_toArray, List.set_cons_zero, List.set_cons_succ]
            refine p3_one ?_
            intro KK hK
            obtain ⟨⟨x0, x1, x2, x3⟩, xf⟩ := hp_3.out
            try simp only at x0 x1 x2 x3
            go_simp
            have hB_s := Lib.hid (below_set4 hB_3.out hg (.int .u64 0) (.int .i64 (-1)) (.int .i64 0) (.int .i64 10))
            have hp_s := Lib.hid (hp_3.out.set (⟨0, (-1), 0, 10⟩))
            clear x0 x1 x2 x3 xf hp_3 hB_3
            refine hK.out _ _ (HSf.out _ hB_s.out) ?_
            clear hK
            try simp only [Act.put, List.setIfInBounds_toArray, List.set_cons_zero, List.set_cons_succ]
            iterate 2 (first | (refine' p3_yes ?_ (by rfl) ?_ ?_; rotate_left; (intro w' hS; (try dsimp only at hS); go_simp; try (with_reducible rfl)); simp only [Act.put, List.setIfInBounds_toArray, List.set_cons_zero, List.set_cons_succ]) | (refine p3_no (by rfl) ?_; simp only [Act.put, List.setIfInBounds_toArray, List.set_cons_zero, List.set_cons_succ]))
            refine p3_done ?_
            go_wp2_with fail
            first | exact ⟨gn, rfl, rfl, rfl, Lib.hid hp_s.out.1, HBf.out _ hB_s.out⟩ | (go_meet; exact ⟨gn, rfl, rfl, rfl, Lib.hid hp_s.out.1, HBf.out _ hB_s.out⟩)
          · intro KK hK
            go_simp
            have hbx : Below wc1.heap.size wc1 (wc1.alloc (.cells #[.int .u64 0, .int .i64 0, .int .i64 0, .int .i64 0] 38)) := (Below.refl _ _).alloc (Nat.le_refl _) _
            have hB_2 := Lib.hid (hB_1.out.trans (hbx.mono hz_1))
            have hz_2 : B0 ≤ (wc1.alloc (.cells #[.int .u64 0, .int .i64 0, .int .i64 0, .int .i64 0] 38)).heap.size := Nat.le_trans hz_1 hbx.size
            have hp_2 : Hid (VtW (wc1.alloc (.cells #[.int .u64 0, .int .i64 0, .int .i64 0, .int .i64 0] 38)) wc1.heap.size ⟨0, 0, 0, 0⟩) := Lib.hid (VtW.new wc1 ⟨0, 0, 0, 0⟩ _)
            clear hbx hB_1
            obtain ⟨wc2, ewc2⟩ : ∃ x, x = wc1.alloc (.cells #[.int .u64 0, .int .i64 0, .int .i64 0, .int .i64 0] 38) := ⟨_, rfl⟩
            rw [← ewc2] at hB_2 hz_2 hp_2 ⊢
            clear ewc2
            have hg : B0 ≤ wc1.heap.size := hz_1
            generalize wc1.heap.size = gn at *
            refine hK.out _ _ (HSf.out _ hB_2.out) ?_
            clear hK
            try simp only [Act.put, List.setIfInBounds_toArray, List.set_cons_zero, List.set_cons_succ]
            refine p3_one ?_
            intro KK hK
            go_simp
            refine (H5.out _).mono ?_
            rintro e wc3 ⟨rfl, hbx⟩
            have hB_3 := Lib.hid (hB_2.out.trans (hbx.mono hz_2))
            have hz_3 : B0 ≤ wc3.heap.size := Nat.le_trans hz_2 hbx.size
            have hp_3 := Lib.hid (hp_2.out.on hbx)
            clear hbx hB_2 hp_2
            refine hK.out _ _ (HSf.out _ hB_3.out) ?_
            clear hK
            try simp only [Act.put, List.setIfInBounds_toArray, List.set_cons_zero, List.set_cons_succ]
            iterate 4 (first | (refine' p3_yes ?_ (by rfl) ?_ ?_; rotate_left; (intro w' hS; (try dsimp only at hS); go_simp; try (with_reducible rfl)); simp only [Act.put, List.setIfInBounds_toArray, List.set_cons_zero, List.set_cons_succ]) | (refine p3_no (by rfl) ?_; simp only [Act.put, List.setIfInBounds_toArray, List.set_cons_zero, List.set_cons_succ]))
            refine p3_one ?_
            intro KK hK
            obtain ⟨⟨x0, x1, x2, x3⟩, xf⟩ := hp_3.out
            try simp only at x0 x1 x2 x3
            go_simp
            have hB_s := Lib.hid (below_set4 hB_3.out hg (.int .u64 0) (.int .i64 (-1)) (.int .i64 0) (.int .i64 10))
            have hp_s := Lib.hid (hp_3.out.set (⟨0, (-1), 0, 10⟩))
            clear x0 x1 x2 x3 xf hp_3 hB_3
            refine hK.out _ _ (HSf.out _ hB_s.out) ?_
            clear hK
            try simp only [Act.put, List.setIfInBounds_toArray, List.set_cons_zero, List.set_cons_succ]
            iterate 2 (first | (refine' p3_yes ?_ (by rfl) ?_ ?_; rotate_left; (intro w' hS; (try dsimp only at hS); go_simp; try (with_reducible rfl)); simp only [Act.put, List.setIfInBounds_toArray, List.set_cons_zero, List.set_cons_succ]) | (refine p3_no (by rfl) ?_; simp only [Act.put, List.setIfInBounds_toArray, List.set_cons_zero, List.set_cons_succ]))
            refine p3_done ?_
            go_wp2_with fail
            first | exact ⟨gn, rfl, rfl, rfl, Lib.hid hp_s.out.1, HBf.out _ hB_s.out⟩ | (go_meet; exact ⟨gn, rfl, rfl, rfl, Lib.hid hp_s.out.1, HBf.out _ hB_s.out⟩)
        · intro KK hK
          go_simp
          have hbx : Below we.heap.size we (we.alloc (.cells #[.int .u64 0, .int .i64 0, .int .i64 0, .int .i64 0] 38)) := (Below.refl _ _).alloc (Nat.le_refl _) _
          have hB_1 := Lib.hid (hB_0.out.trans (hbx.mono hz_0))
          have hz_1 : B0 ≤ (we.alloc (.cells #[.int .u64 0, .int .i64 0, .int .i64 0, .int .i64 0] 38)).heap.size := Nat.le_trans hz_0 hbx.size
          have hp_1 : Hid (VtW (we.alloc (.cells #[.int .u64 0, .int .i64 0, .int .i64 0, .int .i64 0] 38)) we.heap.size ⟨0, 0, 0, 0⟩) := Lib.hid (VtW.new we ⟨0, 0, 0, 0⟩ _)
          clear hbx hB_0
          obtain ⟨wc1, ewc1⟩ : ∃ x, x = we.alloc (.cells #[.int .u64 0, .int .i64 0, .int .i64 0, .int .i64 0] 38) := ⟨_, rfl⟩
          rw [← ewc1] at hB_1 hz_1 hp_1 ⊢
          clear ewc1
          have hg : B0 ≤ we.heap.size := hz_0
          generalize we.heap.size = gn at *
          refine hK.out _ _ (HSf.out _ hB_1.out) ?_
          clear hK
          try simp only [Act.put, List.setIfInBounds_toArray, List.set_cons_zero, List.set_cons_succ]
          refine p3_one ?_
          intro KK hK
          go_simp
          refine (HTN.out _).mono ?_
          rintro e wc2 ⟨rfl, hbx⟩
          have hB_2 := Lib.hid (hB_1.out.trans (hbx.mono hz_1))
          have hz_2 : B0 ≤ wc2.heap.size := Nat.le_trans hz_1 hbx.size
          have hp_2 := Lib.hid (hp_1.out.on hbx)
          clear hbx hB_1 hp_1
          refine hK.out _ _ (HSf.out _ hB_2.out) ?_
          clear hK
          try simp only [Act.put, List.setIfInBounds_toArray, List.set_cons_zero, List.set_cons_succ]
          refine p3_one ?_
          intro KK hK
          go_simp
          refine (H5.out _).mono ?_
          rintro e wc3 ⟨rfl, hbx⟩
          have hB_3 := Lib.hid (hB_2.out.trans (hbx.mono hz_2))
          have hz_3 : B0 ≤ wc3.heap.size := Nat.le_trans hz_2 hbx.size
          have hp_3 := Lib.hid (hp_2.out.on hbx)
          clear hbx hB_2 hp_2
          refine hK.out _ _ (HSf.out _ hB_3.out) ?_
          clear hK
          try simp only [Act.put, List.setIfInBounds_toArray, List.set_cons_zero, List.set_cons_succ]
          iterate 4 (first | (refine' p3_yes ?_ (by rfl) ?_ ?_; rotate_left; (intro w' hS; (try dsimp only at hS); go_simp; try (with_reducible rfl)); simp only [Act.put, List.setIfInBounds_toArray, List.set_cons_zero, List.set_cons_succ]) | (refine p3_no (by rfl) ?_; simp only [Act.put, List.setIfInBounds_toArray, List.set_cons_zero, List.set_cons_succ]))
          refine p3_one ?_
          intro KK hK
          obtain ⟨⟨x0, x1, x2, x3⟩, xf⟩ := hp_3.out
          try simp only at x0 x1 x2 x3
          go_simp
          have hB_s := Lib.hid (below_set4 hB_3.out hg (.int .u64 0) (.int .i64 (-1)) (.int .i64 0) (.int .i64 10))
          have hp_s := Lib.hid (hp_3.out.set (⟨0, (-1), 0, 10⟩))
          clear x0 x1 x2 x3 xf hp_3 hB_3
          refine hK.out _ _ (HSf.out _ hB_s.out) ?_
          clear hK
          try simp only [Act.put, List.setIfInBounds_toArray, List.set_cons_zero, List.set_cons_succ]
          iterate 2 (first | (refine' p3_yes ?_ (by rfl) ?_ ?_; rotate_left; (intro w' hS; (try dsimp only at hS); go_simp; try (with_reducible rfl)); simp only [Act.put, List.setIfInBounds_toArray, List.set_cons_zero, List.set_cons_succ]) | (refine p3_no (by rfl) ?_; simp only [Act.put, List.setIfInBounds_toArray, List.set_cons_zero, List.set_cons_succ]))
          refine p3_done ?_
          go_wp2_with fail
          first | exact ⟨gn, rfl, rfl, rfl, Lib.hid hp_s.out.1, HBf.out _ hB_s.out⟩ | (go_meet; exact ⟨gn, rfl, rfl, rfl, Lib.hid hp_s.out.1, HBf.out _ hB_s.out⟩)
      case rest =>
        obtain ⟨w10, ew10⟩ : ∃ x, x = wc := ⟨_, rfl⟩
        subst ew10
        obtain ⟨gz, rfl, rfl, rfl, hn, hb⟩ := hcut
        have B_10 := Lib.hid (B_9.out.trans (hb.out.mono B_9.out.size))
        have a_10 := Lib.hid (a_9.out.on hb.out)
        have b_10 := Lib.hid (b_9.out.on hb.out)
        have c_10 := Lib.hid (c_9.out.on hb.out)
        have r_10 := Lib.hid (r_9.out.on hb.out)
        clear B_9 a_9 b_9 c_9 r_9
        clear hb
        have Hz_n := hn
        clear hn
        obtain ⟨a0, a1, a2, a3⟩ := a_10.out
        try simp only at a0 a1 a2 a3
        obtain ⟨r0, r1, r2, r3⟩ := r_10.out
        try simp only at r0 r1 r2 r3
        go_wp2_with fail
        go_ret
        exact ⟨rfl, B_10.out⟩
end Go.Proofs.Ytlefnohcfnlejaa
