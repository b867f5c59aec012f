/-
  The walk of has.
-/
import Derived.Test.YtlpnhpnigljlnaaDoorLk
namespace Go.Proofs.YtlpnhpnigljlnaaDoor
open Go.Sort Go.RowKit Go.Proofs.YtlpnhpnigljlnaaDoor.Pure

theorem FdW.other {w : World} {g : Nat} {o : Bool} {s : Sv} {p : Addr} (h : FdW w g o s) (hp : p.block ≠ g) (v : Value) : FdW (w.setCell p v) g o s := by
  obtain ⟨⟨h0, h1, h2, h3, h4, h5⟩, hf⟩ := h
  have n : ∀ k, ¬ p = (⟨g, k, none⟩ : Addr) := fun k e => hp (by rw [e])
  refine ⟨⟨?_, ?_, ?_, ?_, ?_, ?_⟩, fun k => ?_⟩
  · rw [World.cell?_setCell_other _ _ _ _ (n _)]; exact h0
  · rw [World.cell?_setCell_other _ _ _ _ (n _)]; exact h1
  · rw [World.cell?_setCell_other _ _ _ _ (n _)]; exact h2
  · rw [World.cell?_setCell_other _ _ _ _ (n _)]; exact h3
  · rw [World.cell?_setCell_other _ _ _ _ (n _)]; exact h4
  · rw [World.cell?_setCell_other _ _ _ _ (n _)]; exact h5
  · rw [World.frozen?_of_block (a := ⟨g, k, none⟩) (Below.heap_setCell w p v g (Ne.symm hp))]
    exact hf k
theorem FdW.apart6 {w : World} {g c : Nat} {o : Bool} {s : Sv} (h : FdW w g o s) (hc : c ≠ g) (v0 v1 v2 v3 v4 v5 : Value) : FdW ((((((w.setCell ⟨c, 0, none⟩ v0).setCell ⟨c, 1, none⟩ v1).setCell ⟨c, 2, none⟩ v2).setCell ⟨c, 3, none⟩ v3).setCell ⟨c, 4, none⟩ v4).setCell ⟨c, 5, none⟩ v5) g o s :=
  (((((h.other (p := ⟨c, 0, none⟩) hc _).other (p := ⟨c, 1, none⟩) hc _).other (p := ⟨c, 2, none⟩) hc _).other (p := ⟨c, 3, none⟩) hc _).other (p := ⟨c, 4, none⟩) hc _).other (p := ⟨c, 5, none⟩) hc _
/-- What a disk has. -/
noncomputable def hasT (d : Dk) : ByteArray := if secD parC d = true then d.b else d.a
theorem rea_has (d : Dk) : reaD parC d = parC (hasT d) := rfl
noncomputable def hasS (d : Dk) : Sv := parS (hasT d)
noncomputable def hasO (d : Dk) : Bool := okP (hasT d)
theorem hasO_is (d : Dk) : hasO d = (reaD parC d).isSome := rfl
theorem hasS_is (d : Dk) : hasS d = (reaD parC d).getD nilD := rfl
/-- Which place it is. -/
theorem sec_is (d : Dk) : secD parC d = (okP d.b && (!(okP d.a) || decide ((parS d.a).q < (parS d.b).q))) := by
  unfold secD okP parS
  cases parC d.b with
  | none => rfl
  | some y =>
    cases parC d.a with
    | none => rfl
    | some x => rfl
theorem has_b {d : Dk} (h : secD parC d = true) : hasO d = okP d.b ∧ hasS d = parS d.b := by unfold hasO hasS hasT; rw [if_pos h]; exact ⟨rfl, rfl⟩
theorem has_a {d : Dk} (h : secD parC d = false) : hasO d = okP d.a ∧ hasS d = parS d.a := by unfold hasO hasS hasT; rw [if_neg (by rw [h]; decide)]; exact ⟨rfl, rfl⟩
set_option maxRecDepth 100000 in
set_option maxHeartbeats 4000000 in
theorem has_any (d : Dk) (w : World) (ha : d.a.size ≤ 140737488351232) (hb : d.b.size ≤ 140737488351232) (ht : Tab w) : Calls Tryd.prog 26 #[.agg #[.string d.a, .string d.b]] w fun e w' => e = .returned (.agg #[.bool (hasO d), .int .u64 (hasS d).q, .int .u64 (hasS d).b, .int .u64 (hasS d).i, .int .u64 (hasS d).e, .int .i64 (hasS d).u]) ∧ Below w.heap.size w w' := by
  have HLA := Lib.hid (fun (W : World) (hT : Tab W) => look_any d.a W ha hT)
  have HLB := Lib.hid (fun (W : World) (hT : Tab W) => look_any d.b W hb hT)
  have HD1 := Lib.hid (DkA.new w d 23)
  have HB1 : Hid (Below w.heap.size w (w.alloc (.cells #[.string d.a, .string d.b] 23))) := Lib.hid ((Below.refl _ _).alloc (Nat.le_refl _) _)
  have HT1 := Lib.hid (ht.on HB1.out)
  obtain ⟨ro, hro⟩ : ∃ r, r = hasO d := ⟨_, rfl⟩
  obtain ⟨rs, hrs⟩ : ∃ r, r = hasS d := ⟨_, rfl⟩
  rw [← hro, ← hrs]
  have HSB : Hid ((okP d.b && (!(okP d.a) || decide ((parS d.a).q < (parS d.b).q))) = true → ro = okP d.b ∧ rs = parS d.b) := Lib.hid (fun h => by rw [hro, hrs]; exact has_b (by rw [sec_is]; exact h))
  have HSA : Hid ((okP d.b && (!(okP d.a) || decide ((parS d.a).q < (parS d.b).q))) = false → ro = okP d.a ∧ rs = parS d.a) := Lib.hid (fun h => by rw [hro, hrs]; exact has_a (by rw [sec_is]; exact h))
  clear hro hrs ht
  generalize okP d.a = oa at *
  generalize okP d.b = ob at *
  generalize parS d.a = sa at *
  generalize parS d.b = sb at *
  go_enter Tryd.func26, Tryd.ntmps26
  go_upto_region 1 with (fail)
  have hsz : (w.alloc (.cells #[.string d.a, .string d.b] 23)).heap.size = w.heap.size + 1 := by simp
  generalize w.alloc (.cells #[.string d.a, .string d.b] 23) = w1 at *
  have hbn : Below w1.heap.size w1 (w1.alloc (.cells #[.bool false, .int .u64 0, .int .u64 0, .int .u64 0, .int .u64 0, .int .i64 0] 64)) := (Below.refl _ _).alloc (Nat.le_refl _) _
  have HR2 : Hid (FdW (w1.alloc (.cells #[.bool false, .int .u64 0, .int .u64 0, .int .u64 0, .int .u64 0, .int .i64 0] 64)) w1.heap.size false nilD) := Lib.hid (FdW.new w1 false nilD _)
  have HB2 := Lib.hid (HB1.out.trans (hbn.mono HB1.out.size))
  have HD2 := Lib.hid (HD1.out.on hbn)
  have HT2 := Lib.hid (HT1.out.on hbn)
  rw [hsz] at HR2
  have hB2w : w.heap.size ≤ w.heap.size + 1 := Nat.le_succ _
  clear hbn HD1 HB1 HT1 hsz
  generalize w1.alloc (.cells #[.bool false, .int .u64 0, .int .u64 0, .int .u64 0, .int .u64 0, .int .i64 0] 64) = w2 at *
  go_cut [3, 4] from 5 to 10 (fun p q wx => ∃ g3 g4 : Nat, p = .pointer (some ⟨g3, 0, none⟩) ∧ q = .pointer (some ⟨g4, 0, none⟩) ∧ Hid (FdA wx g3 oa sa) ∧ Hid (FdA wx g4 ob sb) ∧ Hid (FdW wx (w.heap.size + 1) false nilD) ∧ Hid (Below w.heap.size w wx))
  case first =>
    have hd0 : Below w2.heap.size w2 w2.drew := (Below.refl _ _).drew
    have HD3 := Lib.hid (HD2.out.on hd0)
    have HDe : Hid (∀ W, Below w2.drew.heap.size w2.drew W → DkA W w.heap.size d) := Lib.hid (fun W hb => (HD2.out.on hd0).on hb)
    have HTe : Hid (∀ W, Below w2.drew.heap.size w2.drew W → Tab W) := Lib.hid (fun W hb => (HT2.out.on hd0).on hb)
    have HRe : Hid (∀ W, Below w2.drew.heap.size w2.drew W → FdW W (w.heap.size + 1) false nilD) := Lib.hid (fun W hb => (HR2.out.on hd0).on hb)
    have HBe : Hid (∀ W, Below w2.drew.heap.size w2.drew W → Below w.heap.size w W) := Lib.hid (fun W hb => (HB2.out.trans (hd0.mono HB2.out.size)).trans (hb.mono (HB2.out.trans (hd0.mono HB2.out.size)).size))
    clear hd0 HSA HSB
    refine p3_enter (.take 0 (.take 1 (.take 3 (.take 4 (.three 2 (.three 5 (.two 6 (.one 7 (.one 8 (.one 9 .done))) 7 (.one 6 (.one 8 (.one 9 .done)))) 6 (.two 5 (.one 7 (.one 8 (.one 9 .done))) 7 (.one 5 (.one 8 (.one 9 .done)))) 7 (.two 5 (.one 6 (.one 8 (.one 9 .done))) 6 (.one 5 (.one 8 (.one 9 .done))))) 6 (.two 2 (.two 5 (.one 7 (.one 8 (.one 9 .done))) 7 (.one 5 (.one 8 (.one 9 .done)))) 7 (.one 2 (.one 5 (.one 8 (.one 9 .done))))) 7 (.two 2 (.two 5 (.one 6 (.one 8 (.one 9 .done))) 6 (.one 5 (.one 8 (.one 9 .done)))) 6 (.one 2 (.one 5 (.one 8 (.one 9 .done)))))))))) (fun W => W.cell? ⟨w.heap.size, 0, none⟩ = some (.string d.a) ∧ W.cell? ⟨w.heap.size, 1, none⟩ = some (.string d.b)) (by kernel_rfl) (by kernel_rfl) (by kernel_rfl) (fun _ _ d _ _ h => by cases d <;> exact h) HD3.out ?_
    simp only [pick3, opAt, List.drop_succ_cons, List.drop_zero]
    clear HD2 HT2 HR2 HB2
    generalize w2.drew = we at *
    obtain ⟨B0, hB0⟩ : ∃ B, B = we.heap.size := ⟨_, rfl⟩
    rw [← hB0] at HDe HTe HRe HBe
    have hB_0 : Hid (Below B0 we we) := Lib.hid (Below.refl _ _)
    have hz_0 : B0 ≤ we.heap.size := Nat.le_of_eq hB0
    clear hB0 HD3
    iterate 4 (first | (refine' p3_yes ?_ (by rfl) ?_ ?_; rotate_left; (intro w' hS; (try dsimp only at hS); go_simp; try (with_reducible rfl)); simp only [Act.put, List.setIfInBounds_toArray, List.set_cons_zero, List.set_cons_succ]) | (refine p3_no (by rfl) ?_; simp only [Act.put, List.setIfInBounds_toArray, List.set_cons_zero, List.set_cons_succ]))
    refine p3_three ?_ ?_ ?_
    · intro KK hK
      go_simp
      refine (HLA.out _ (HTe.out _ hB_0.out)).mono ?_
      rintro e wc1 ⟨rfl, hbx⟩
      have hB_1 := Lib.hid (hB_0.out.trans (hbx.mono hz_0))
      have hz_1 : B0 ≤ wc1.heap.size := Nat.le_trans hz_0 hbx.size
      clear hbx hB_0
      refine hK.out _ _ (HDe.out _ hB_1.out) ?_
      clear hK
      refine p3_three ?_ ?_ ?_
      · intro KK hK
        go_simp
        refine (HLB.out _ (HTe.out _ hB_1.out)).mono ?_
        rintro e wc2 ⟨rfl, hbx⟩
        have hB_2 := Lib.hid (hB_1.out.trans (hbx.mono hz_1))
        have hz_2 : B0 ≤ wc2.heap.size := Nat.le_trans hz_1 hbx.size
        clear hbx hB_1
        refine hK.out _ _ (HDe.out _ hB_2.out) ?_
        clear hK
        refine p3_two ?_ ?_
        · intro KK hK
          go_simp
          have hbx : Below wc2.heap.size wc2 (wc2.alloc (.cells #[.bool false, .int .u64 0, .int .u64 0, .int .u64 0, .int .u64 0, .int .i64 0] 64)) := (Below.refl _ _).alloc (Nat.le_refl _) _
          have hB_3 := Lib.hid (hB_2.out.trans (hbx.mono hz_2))
          have hz_3 : B0 ≤ (wc2.alloc (.cells #[.bool false, .int .u64 0, .int .u64 0, .int .u64 0, .int .u64 0, .int .i64 0] 64)).heap.size := Nat.le_trans hz_2 hbx.size
          have hp3_3 : Hid (FdW (wc2.alloc (.cells #[.bool false, .int .u64 0, .int .u64 0, .int .u64 0, .int .u64 0, .int .i64 0] 64)) wc2.heap.size false nilD) := Lib.hid (FdW.new wc2 false nilD _)
          clear hbx hB_2
          obtain ⟨wc3, ewc3⟩ : ∃ x, x = wc2.alloc (.cells #[.bool false, .int .u64 0, .int .u64 0, .int .u64 0, .int .u64 0, .int .i64 0] 64) := ⟨_, rfl⟩
          rw [← ewc3] at hB_3 hz_3 hp3_3 ⊢
          clear ewc3
          have hg3 : B0 ≤ wc2.heap.size := hz_2
          generalize wc2.heap.size = g3 at *
          refine hK.out _ _ (HDe.out _ hB_3.out) ?_
          clear hK
          refine p3_one ?_
          intro KK hK
          go_simp
          have hbx : Below wc3.heap.size wc3 (wc3.alloc (.cells #[.bool false, .int .u64 0, .int .u64 0, .int .u64 0, .int .u64 0, .int .i64 0] 64)) := (Below.refl _ _).alloc (Nat.le_refl _) _
          have hB_4 := Lib.hid (hB_3.out.trans (hbx.mono hz_3))
          have hz_4 : B0 ≤ (wc3.alloc (.cells #[.bool false, .int .u64 0, .int .u64 0, .int .u64 0, .int .u64 0, .int .i64 0] 64)).heap.size := Nat.le_trans hz_3 hbx.size
          have hp3_4 := Lib.hid (hp3_3.out.on hbx)
          have hp4_4 : Hid (FdW (wc3.alloc (.cells #[.bool false, .int .u64 0, .int .u64 0, .int .u64 0, .int .u64 0, .int .i64 0] 64)) wc3.heap.size false nilD) := Lib.hid (FdW.new wc3 false nilD _)
          have hne : Hid (g3 ≠ wc3.heap.size) := Lib.hid (Nat.ne_of_lt hp3_3.out.lt)
          clear hbx hB_3 hp3_3
          obtain ⟨wc4, ewc4⟩ : ∃ x, x = wc3.alloc (.cells #[.bool false, .int .u64 0, .int .u64 0, .int .u64 0, .int .u64 0, .int .i64 0] 64) := ⟨_, rfl⟩
          rw [← ewc4] at hB_4 hz_4 hp4_4 hp3_4 ⊢
          clear ewc4
          have hg4 : B0 ≤ wc3.heap.size := hz_3
          generalize wc3.heap.size = g4 at *
          refine hK.out _ _ (HDe.out _ hB_4.out) ?_
          clear hK
          have hne34 : g3 ≠ g4 := by first | exact hne.out | exact (Ne.symm hne.out)
          have hne43 : g4 ≠ g3 := Ne.symm hne34
          clear hne
          refine p3_one ?_
          intro KK hK
          obtain ⟨⟨x0, x1, x2, x3, x4, x5⟩, xf⟩ := hp3_4.out
          go_simp
          have hB_s := Lib.hid (below_set6 hB_4.out hg3 (.bool oa) (.int .u64 sa.q) (.int .u64 sa.b) (.int .u64 sa.i) (.int .u64 sa.e) (.int .i64 sa.u))
          have hp3_s := Lib.hid (hp3_4.out.set oa sa)
          have hp4_s := Lib.hid (hp4_4.out.apart6 (c := g3) hne34 (.bool oa) (.int .u64 sa.q) (.int .u64 sa.b) (.int .u64 sa.i) (.int .u64 sa.e) (.int .i64 sa.u))
          clear x0 x1 x2 x3 x4 x5 xf hp3_4 hp4_4 hB_4
          obtain ⟨ws, ews⟩ : ∃ x, x = (((((wc4.setCell ⟨g3, 0, none⟩ (.bool oa)).setCell ⟨g3, 1, none⟩ (.int .u64 sa.q)).setCell ⟨g3, 2, none⟩ (.int .u64 sa.b)).setCell ⟨g3, 3, none⟩ (.int .u64 sa.i)).setCell ⟨g3, 4, none⟩ (.int .u64 sa.e)).setCell ⟨g3, 5, none⟩ (.int .i64 sa.u) := ⟨_, rfl⟩
          rw [← ews] at hB_s hp3_s hp4_s ⊢
          clear ews
          refine hK.out _ _ (HDe.out _ hB_s.out) ?_
          clear hK
          refine p3_one ?_
          intro KK hK
          obtain ⟨⟨x0, x1, x2, x3, x4, x5⟩, xf⟩ := hp4_s.out
          go_simp
          have hB_t := Lib.hid (below_set6 hB_s.out hg4 (.bool ob) (.int .u64 sb.q) (.int .u64 sb.b) (.int .u64 sb.i) (.int .u64 sb.e) (.int .i64 sb.u))
          have hp4_t := Lib.hid (hp4_s.out.set ob sb)
          have hp3_t := Lib.hid (hp3_s.out.apart6 (c := g4) hne43 (.bool ob) (.int .u64 sb.q) (.int .u64 sb.b) (.int .u64 sb.i) (.int .u64 sb.e) (.int .i64 sb.u))
          clear x0 x1 x2 x3 x4 x5 xf hp3_s hp4_s hB_s
          refine hK.out _ _ (HDe.out _ hB_t.out) ?_
          clear hK
          refine p3_done ?_
          go_wp2_with fail
          first | exact ⟨g3, g4, rfl, rfl, Lib.hid hp3_t.out.1, Lib.hid hp4_t.out.1, Lib.hid (HRe.out _ hB_t.out), Lib.hid (HBe.out _ hB_t.out)⟩ | (go_meet; exact ⟨g3, g4, rfl, rfl, Lib.hid hp3_t.out.1, Lib.hid hp4_t.out.1, Lib.hid (HRe.out _ hB_t.out), Lib.hid (HBe.out _ hB_t.out)⟩)
        · intro KK hK
          go_simp
          have hbx : Below wc2.heap.size wc2 (wc2.alloc (.cells #[.bool false, .int .u64 0, .int .u64 0, .int .u64 0, .int .u64 0, .int .i64 0] 64)) := (Below.refl _ _).alloc (Nat.le_refl _) _
          have hB_3 := Lib.hid (hB_2.out.trans (hbx.mono hz_2))
          have hz_3 : B0 ≤ (wc2.alloc (.cells #[.bool false, .int .u64 0, .int .u64 0, .int .u64 0, .int .u64 0, .int .i64 0] 64)).heap.size := Nat.le_trans hz_2 hbx.size
          have hp4_3 : Hid (FdW (wc2.alloc (.cells #[.bool false, .int .u64 0, .int .u64 0, .int .u64 0, .int .u64 0, .int .i64 0] 64)) wc2.heap.size false nilD) := Lib.hid (FdW.new wc2 false nilD _)
          clear hbx hB_2
          obtain ⟨wc3, ewc3⟩ : ∃ x, x = wc2.alloc (.cells #[.bool false, .int .u64 0, .int .u64 0, .int .u64 0, .int .u64 0, .int .i64 0] 64) := ⟨_, rfl⟩
          rw [← ewc3] at hB_3 hz_3 hp4_3 ⊢
          clear ewc3
          have hg4 : B0 ≤ wc2.heap.size := hz_2
          generalize wc2.heap.size = g4 at *
          refine hK.out _ _ (HDe.out _ hB_3.out) ?_
          clear hK
          refine p3_one ?_
          intro KK hK
          go_simp
          have hbx : Below wc3.heap.size wc3 (wc3.alloc (.cells #[.bool false, .int .u64 0, .int .u64 0, .int .u64 0, .int .u64 0, .int .i64 0] 64)) := (Below.refl _ _).alloc (Nat.le_refl _) _
          have hB_4 := Lib.hid (hB_3.out.trans (hbx.mono hz_3))
          have hz_4 : B0 ≤ (wc3.alloc (.cells #[.bool false, .int .u64 0, .int .u64 0, .int .u64 0, .int .u64 0, .int .i64 0] 64)).heap.size := Nat.le_trans hz_3 hbx.size
          have hp4_4 := Lib.hid (hp4_3.out.on hbx)
          have hp3_4 : Hid (FdW (wc3.alloc (.cells #[.bool false, .int .u64 0, .int .u64 0, .int .u64 0, .int .u64 0, .int .i64 0] 64)) wc3.heap.size false nilD) := Lib.hid (FdW.new wc3 false nilD _)
          have hne : Hid (g4 ≠ wc3.heap.size) := Lib.hid (Nat.ne_of_lt hp4_3.out.lt)
          clear hbx hB_3 hp4_3
          obtain ⟨wc4, ewc4⟩ : ∃ x, x = wc3.alloc (.cells #[.bool false, .int .u64 0, .int .u64 0, .int .u64 0, .int .u64 0, .int .i64 0] 64) := ⟨_, rfl⟩
          rw [← ewc4] at hB_4 hz_4 hp3_4 hp4_4 ⊢
          clear ewc4
          have hg3 : B0 ≤ wc3.heap.size := hz_3
          generalize wc3.heap.size = g3 at *
          refine hK.out _ _ (HDe.out _ hB_4.out) ?_
          clear hK
          have hne34 : g3 ≠ g4 := by first | exact hne.out | exact (Ne.symm hne.out)
          have hne43 : g4 ≠ g3 := Ne.symm hne34
          clear hne
          refine p3_one ?_
          intro KK hK
          obtain ⟨⟨x0, x1, x2, x3, x4, x5⟩, xf⟩ := hp3_4.out
          go_simp
          have hB_s := Lib.hid (below_set6 hB_4.out hg3 (.bool oa) (.int .u64 sa.q) (.int .u64 sa.b) (.int .u64 sa.i) (.int .u64 sa.e) (.int .i64 sa.u))
          have hp3_s := Lib.hid (hp3_4.out.set oa sa)
          have hp4_s := Lib.hid (hp4_4.out.apart6 (c := g3) hne34 (.bool oa) (.int .u64 sa.q) (.int .u64 sa.b) (.int .u64 sa.i) (.int .u64 sa.e) (.int .i64 sa.u))
          clear x0 x1 x2 x3 x4 x5 xf hp3_4 hp4_4 hB_4
          obtain ⟨ws, ews⟩ : ∃ x, x = (((((wc4.setCell ⟨g3, 0, none⟩ (.bool oa)).setCell ⟨g3, 1, none⟩ (.int .u64 sa.q)).setCell ⟨g3, 2, none⟩ (.int .u64 sa.b)).setCell ⟨g3, 3, none⟩ (.int .u64 sa.i)).setCell ⟨g3, 4, none⟩ (.int .u64 sa.e)).setCell ⟨g3, 5, none⟩ (.int .i64 sa.u) := ⟨_, rfl⟩
          rw [← ews] at hB_s hp3_s hp4_s ⊢
          clear ews
          refine hK.out _ _ (HDe.out _ hB_s.out) ?_
          clear hK
          refine p3_one ?_
          intro KK hK
          obtain ⟨⟨x0, x1, x2, x3, x4, x5⟩, xf⟩ := hp4_s.out
          go_simp
          have hB_t := Lib.hid (below_set6 hB_s.out hg4 (.bool ob) (.int .u64 sb.q) (.int .u64 sb.b) (.int .u64 sb.i) (.int .u64 sb.e) (.int .i64 sb.u))
          have hp4_t := Lib.hid (hp4_s.out.set ob sb)
          have hp3_t := Lib.hid (hp3_s.out.apart6 (c := g4) hne43 (.bool ob) (.int .u64 sb.q) (.int .u64 sb.b) (.int .u64 sb.i) (.int .u64 sb.e) (.int .i64 sb.u))
          clear x0 x1 x2 x3 x4 x5 xf hp3_s hp4_s hB_s
          refine hK.out _ _ (HDe.out _ hB_t.out) ?_
          clear hK
          refine p3_done ?_
          go_wp2_with fail
          first | exact ⟨g3, g4, rfl, rfl, Lib.hid hp3_t.out.1, Lib.hid hp4_t.out.1, Lib.hid (HRe.out _ hB_t.out), Lib.hid (HBe.out _ hB_t.out)⟩ | (go_meet; exact ⟨g3, g4, rfl, rfl, Lib.hid hp3_t.out.1, Lib.hid hp4_t.out.1, Lib.hid (HRe.out _ hB_t.out), Lib.hid (HBe.out _ hB_t.out)⟩)
      · intro KK hK
        go_simp
        have hbx : Below wc1.heap.size wc1 (wc1.alloc (.cells #[.bool false, .int .u64 0, .int .u64 0, .int .u64 0, .int .u64 0, .int .i64 0] 64)) := (Below.refl _ _).alloc (Nat.le_refl _) _
        have hB_2 := Lib.hid (hB_1.out.trans (hbx.mono hz_1))
        have hz_2 : B0 ≤ (wc1.alloc (.cells #[.bool false, .int .u64 0, .int .u64 0, .int .u64 0, .int .u64 0, .int .i64 0] 64)).heap.size := Nat.le_trans hz_1 hbx.size
        have hp3_2 : Hid (FdW (wc1.alloc (.cells #[.bool false, .int .u64 0, .int .u64 0, .int .u64 0, .int .u64 0, .int .i64 0] 64)) wc1.heap.size false nilD) := Lib.hid (FdW.new wc1 false nilD _)
        clear hbx hB_1
        obtain ⟨wc2, ewc2⟩ : ∃ x, x = wc1.alloc (.cells #[.bool false, .int .u64 0, .int .u64 0, .int .u64 0, .int .u64 0, .int .i64 0] 64) := ⟨_, rfl⟩
        rw [← ewc2] at hB_2 hz_2 hp3_2 ⊢
        clear ewc2
        have hg3 : B0 ≤ wc1.heap.size := hz_1
        generalize wc1.heap.size = g3 at *
        refine hK.out _ _ (HDe.out _ hB_2.out) ?_
        clear hK
        refine p3_two ?_ ?_
        · intro KK hK
          go_simp
          refine (HLB.out _ (HTe.out _ hB_2.out)).mono ?_
          rintro e wc3 ⟨rfl, hbx⟩
          have hB_3 := Lib.hid (hB_2.out.trans (hbx.mono hz_2))
          have hz_3 : B0 ≤ wc3.heap.size := Nat.le_trans hz_2 hbx.size
          have hp3_3 := Lib.hid (hp3_2.out.on hbx)
          clear hbx hB_2 hp3_2
          refine hK.out _ _ (HDe.out _ hB_3.out) ?_
          clear hK
          refine p3_one ?_
          intro KK hK
          go_simp
          have hbx : Below wc3.heap.size wc3 (wc3.alloc (.cells #[.bool false, .int .u64 0, .int .u64 0, .int .u64 0, .int .u64 0, .int .i64 0] 64)) := (Below.refl _ _).alloc (Nat.le_refl _) _
          have hB_4 := Lib.hid (hB_3.out.trans (hbx.mono hz_3))
          have hz_4 : B0 ≤ (wc3.alloc (.cells #[.bool false, .int .u64 0, .int .u64 0, .int .u64 0, .int .u64 0, .int .i64 0] 64)).heap.size := Nat.le_trans hz_3 hbx.size
          have hp3_4 := Lib.hid (hp3_3.out.on hbx)
          have hp4_4 : Hid (FdW (wc3.alloc (.cells #[.bool false, .int .u64 0, .int .u64 0, .int .u64 0, .int .u64 0, .int .i64 0] 64)) wc3.heap.size false nilD) := Lib.hid (FdW.new wc3 false nilD _)
          have hne : Hid (g3 ≠ wc3.heap.size) := Lib.hid (Nat.ne_of_lt hp3_3.out.lt)
          clear hbx hB_3 hp3_3
          obtain ⟨wc4, ewc4⟩ : ∃ x, x = wc3.alloc (.cells #[.bool false, .int .u64 0, .int .u64 0, .int .u64 0, .int .u64 0, .int .i64 0] 64) := ⟨_, rfl⟩
          rw [← ewc4] at hB_4 hz_4 hp4_4 hp3_4 ⊢
          clear ewc4
          have hg4 : B0 ≤ wc3.heap.size := hz_3
          generalize wc3.heap.size = g4 at *
          refine hK.out _ _ (HDe.out _ hB_4.out) ?_
          clear hK
          have hne34 : g3 ≠ g4 := by first | exact hne.out | exact (Ne.symm hne.out)
          have hne43 : g4 ≠ g3 := Ne.symm hne34
          clear hne
          refine p3_one ?_
          intro KK hK
          obtain ⟨⟨x0, x1, x2, x3, x4, x5⟩, xf⟩ := hp3_4.out
          go_simp
          have hB_s := Lib.hid (below_set6 hB_4.out hg3 (.bool oa) (.int .u64 sa.q) (.int .u64 sa.b) (.int .u64 sa.i) (.int .u64 sa.e) (.int .i64 sa.u))
          have hp3_s := Lib.hid (hp3_4.out.set oa sa)
          have hp4_s := Lib.hid (hp4_4.out.apart6 (c := g3) hne34 (.bool oa) (.int .u64 sa.q) (.int .u64 sa.b) (.int .u64 sa.i) (.int .u64 sa.e) (.int .i64 sa.u))
          clear x0 x1 x2 x3 x4 x5 xf hp3_4 hp4_4 hB_4
          obtain ⟨ws, ews⟩ : ∃ x, x = (((((wc4.setCell ⟨g3, 0, none⟩ (.bool oa)).setCell ⟨g3, 1, none⟩ (.int .u64 sa.q)).setCell ⟨g3, 2, none⟩ (.int .u64 sa.b)).setCell ⟨g3, 3, none⟩ (.int .u64 sa.i)).setCell ⟨g3, 4, none⟩ (.int .u64 sa.e)).setCell ⟨g3, 5, none⟩ (.int .i64 sa.u) := ⟨_, rfl⟩
          rw [← ews] at hB_s hp3_s hp4_s ⊢
          clear ews
          refine hK.out _ _ (HDe.out _ hB_s.out) ?_
          clear hK
          refine p3_one ?_
          intro KK hK
          obtain ⟨⟨x0, x1, x2, x3, x4, x5⟩, xf⟩ := hp4_s.out
          go_simp
          have hB_t := Lib.hid (below_set6 hB_s.out hg4 (.bool ob) (.int .u64 sb.q) (.int .u64 sb.b) (.int .u64 sb.i) (.int .u64 sb.e) (.int .i64 sb.u))
          have hp4_t := Lib.hid (hp4_s.out.set ob sb)
          have hp3_t := Lib.hid (hp3_s.out.apart6 (c := g4) hne43 (.bool ob) (.int .u64 sb.q) (.int .u64 sb.b) (.int .u64 sb.i) (.int .u64 sb.e) (.int .i64 sb.u))
          clear x0 x1 x2 x3 x4 x5 xf hp3_s hp4_s hB_s
          refine hK.out _ _ (HDe.out _ hB_t.out) ?_
          clear hK
          refine p3_done ?_
          go_wp2_with fail
          first | exact ⟨g3, g4, rfl, rfl, Lib.hid hp3_t.out.1, Lib.hid hp4_t.out.1, Lib.hid (HRe.out _ hB_t.out), Lib.hid (HBe.out _ hB_t.out)⟩ | (go_meet; exact ⟨g3, g4, rfl, rfl, Lib.hid hp3_t.out.1, Lib.hid hp4_t.out.1, Lib.hid (HRe.out _ hB_t.out), Lib.hid (HBe.out _ hB_t.out)⟩)
        · intro KK hK
          go_simp
          have hbx : Below wc2.heap.size wc2 (wc2.alloc (.cells #[.bool false, .int .u64 0, .int .u64 0, .int .u64 0, .int .u64 0, .int .i64 0] 64)) := (Below.refl _ _).alloc (Nat.le_refl _) _
          have hB_3 := Lib.hid (hB_2.out.trans (hbx.mono hz_2))
          have hz_3 : B0 ≤ (wc2.alloc (.cells #[.bool false, .int .u64 0, .int .u64 0, .int .u64 0, .int .u64 0, .int .i64 0] 64)).heap.size := Nat.le_trans hz_2 hbx.size
          have hp3_3 := Lib.hid (hp3_2.out.on hbx)
          have hp4_3 : Hid (FdW (wc2.alloc (.cells #[.bool false, .int .u64 0, .int .u64 0, .int .u64 0, .int .u64 0, .int .i64 0] 64)) wc2.heap.size false nilD) := Lib.hid (FdW.new wc2 false nilD _)
          have hne : Hid (g3 ≠ wc2.heap.size) := Lib.hid (Nat.ne_of_lt hp3_2.out.lt)
          clear hbx hB_2 hp3_2
          obtain ⟨wc3, ewc3⟩ : ∃ x, x = wc2.alloc (.cells #[.bool false, .int .u64 0, .int .u64 0, .int .u64 0, .int .u64 0, .int .i64 0] 64) := ⟨_, rfl⟩
          rw [← ewc3] at hB_3 hz_3 hp4_3 hp3_3 ⊢
          clear ewc3
          have hg4 : B0 ≤ wc2.heap.size := hz_2
          generalize wc2.heap.size = g4 at *
          refine hK.out _ _ (HDe.out _ hB_3.out) ?_
          clear hK
          refine p3_one ?_
          intro KK hK
          go_simp
          refine (HLB.out _ (HTe.out _ hB_3.out)).mono ?_
          rintro e wc4 ⟨rfl, hbx⟩
          have hB_4 := Lib.hid (hB_3.out.trans (hbx.mono hz_3))
          have hz_4 : B0 ≤ wc4.heap.size := Nat.le_trans hz_3 hbx.size
          have hp3_4 := Lib.hid (hp3_3.out.on hbx)
          have hp4_4 := Lib.hid (hp4_3.out.on hbx)
          clear hbx hB_3 hp3_3 hp4_3
          refine hK.out _ _ (HDe.out _ hB_4.out) ?_
          clear hK
          have hne34 : g3 ≠ g4 := by first | exact hne.out | exact (Ne.symm hne.out)
          have hne43 : g4 ≠ g3 := Ne.symm hne34
          clear hne
          refine p3_one ?_
          intro KK hK
          obtain ⟨⟨x0, x1, x2, x3, x4, x5⟩, xf⟩ := hp3_4.out
          go_simp
          have hB_s := Lib.hid (below_set6 hB_4.out hg3 (.bool oa) (.int .u64 sa.q) (.int .u64 sa.b) (.int .u64 sa.i) (.int .u64 sa.e) (.int .i64 sa.u))
          have hp3_s := Lib.hid (hp3_4.out.set oa sa)
          have hp4_s := Lib.hid (hp4_4.out.apart6 (c := g3) hne34 (.bool oa) (.int .u64 sa.q) (.int .u64 sa.b) (.int .u64 sa.i) (.int .u64 sa.e) (.int .i64 sa.u))
          clear x0 x1 x2 x3 x4 x5 xf hp3_4 hp4_4 hB_4
          obtain ⟨ws, ews⟩ : ∃ x, x = (((((wc4.setCell ⟨g3, 0, none⟩ (.bool oa)).setCell ⟨g3, 1, none⟩ (.int .u64 sa.q)).setCell ⟨g3, 2, none⟩ (.int .u64 sa.b)).setCell ⟨g3, 3, none⟩ (.int .u64 sa.i)).setCell ⟨g3, 4, none⟩ (.int .u64 sa.e)).setCell ⟨g3, 5, none⟩ (.int .i64 sa.u) := ⟨_, rfl⟩
          rw [← ews] at hB_s hp3_s hp4_s ⊢
          clear ews
          refine hK.out _ _ (HDe.out _ hB_s.out) ?_
          clear hK
          refine p3_one ?_
          intro KK hK
          obtain ⟨⟨x0, x1, x2, x3, x4, x5⟩, xf⟩ := hp4_s.out
          go_simp
          have hB_t := Lib.hid (below_set6 hB_s.out hg4 (.bool ob) (.int .u64 sb.q) (.int .u64 sb.b) (.int .u64 sb.i) (.int .u64 sb.e) (.int .i64 sb.u))
          have hp4_t := Lib.hid (hp4_s.out.set ob sb)
          have hp3_t := Lib.hid (hp3_s.out.apart6 (c := g4) hne43 (.bool ob) (.int .u64 sb.q) (.int .u64 sb.b) (.int .u64 sb.i) (.int .u64 sb.e) (.int .i64 sb.u))
          clear x0 x1 x2 x3 x4 x5 xf hp3_s hp4_s hB_s
          refine hK.out _ _ (HDe.out _ hB_t.out) ?_
          clear hK
          refine p3_done ?_
          go_wp2_with fail
          first | exact ⟨g3, g4, rfl, rfl, Lib.hid hp3_t.out.1, Lib.hid hp4_t.out.1, Lib.hid (HRe.out _ hB_t.out), Lib.hid (HBe.out _ hB_t.out)⟩ | (go_meet; exact ⟨g3, g4, rfl, rfl, Lib.hid hp3_t.out.1, Lib.hid hp4_t.out.1, Lib.hid (HRe.out _ hB_t.out), Lib.hid (HBe.out _ hB_t.out)⟩)
      · intro KK hK
        go_simp
        have hbx : Below wc1.heap.size wc1 (wc1.alloc (.cells #[.bool false, .int .u64 0, .int .u64 0, .int .u64 0, .int .u64 0, .int .i64 0] 64)) := (Below.refl _ _).alloc (Nat.le_refl _) _
        have hB_2 := Lib.hid (hB_1.out.trans (hbx.mono hz_1))
        have hz_2 : B0 ≤ (wc1.alloc (.cells #[.bool false, .int .u64 0, .int .u64 0, .int .u64 0, .int .u64 0, .int .i64 0] 64)).heap.size := Nat.le_trans hz_1 hbx.size
        have hp4_2 : Hid (FdW (wc1.alloc (.cells #[.bool false, .int .u64 0, .int .u64 0, .int .u64 0, .int .u64 0, .int .i64 0] 64)) wc1.heap.size false nilD) := Lib.hid (FdW.new wc1 false nilD _)
        clear hbx hB_1
        obtain ⟨wc2, ewc2⟩ : ∃ x, x = wc1.alloc (.cells #[.bool false, .int .u64 0, .int .u64 0, .int .u64 0, .int .u64 0, .int .i64 0] 64) := ⟨_, rfl⟩
        rw [← ewc2] at hB_2 hz_2 hp4_2 ⊢
        clear ewc2
        have hg4 : B0 ≤ wc1.heap.size := hz_1
        generalize wc1.heap.size = g4 at *
        refine hK.out _ _ (HDe.out _ hB_2.out) ?_
        clear hK
        refine p3_two ?_ ?_
        · intro KK hK
          go_simp
          refine (HLB.out _ (HTe.out _ hB_2.out)).mono ?_
          rintro e wc3 ⟨rfl, hbx⟩
          have hB_3 := Lib.hid (hB_2.out.trans (hbx.mono hz_2))
          have hz_3 : B0 ≤ wc3.heap.size := Nat.le_trans hz_2 hbx.size
          have hp4_3 := Lib.hid (hp4_2.out.on hbx)
          clear hbx hB_2 hp4_2
          refine hK.out _ _ (HDe.out _ hB_3.out) ?_
          clear hK
          refine p3_one ?_
          intro KK hK
          go_simp
          have hbx : Below wc3.heap.size wc3 (wc3.alloc (.cells #[.bool false, .int .u64 0, .int .u64 0, .int .u64 0, .int .u64 0, .int .i64 0] 64)) := (Below.refl _ _).alloc (Nat.le_refl _) _
          have hB_4 := Lib.hid (hB_3.out.trans (hbx.mono hz_3))
          have hz_4 : B0 ≤ (wc3.alloc (.cells #[.bool false, .int .u64 0, .int .u64 0, .int .u64 0, .int .u64 0, .int .i64 0] 64)).heap.size := Nat.le_trans hz_3 hbx.size
          have hp4_4 := Lib.hid (hp4_3.out.on hbx)
          have hp3_4 : Hid (FdW (wc3.alloc (.cells #[.bool false, .int .u64 0, .int .u64 0, .int .u64 0, .int .u64 0, .int .i64 0] 64)) wc3.heap.size false nilD) := Lib.hid (FdW.new wc3 false nilD _)
          have hne : Hid (g4 ≠ wc3.heap.size) := Lib.hid (Nat.ne_of_lt hp4_3.out.lt)
          clear hbx hB_3 hp4_3
          obtain ⟨wc4, ewc4⟩ : ∃ x, x = wc3.alloc (.cells #[.bool false, .int .u64 0, .int .u64 0, .int .u64 0, .int .u64 0, .int .i64 0] 64) := ⟨_, rfl⟩
          rw [← ewc4] at hB_4 hz_4 hp3_4 hp4_4 ⊢
          clear ewc4
          have hg3 : B0 ≤ wc3.heap.size := hz_3
          generalize wc3.heap.size = g3 at *
          refine hK.out _ _ (HDe.out _ hB_4.out) ?_
          clear hK
          have hne34 : g3 ≠ g4 := by first | exact hne.out | exact (Ne.symm hne.out)
          have hne43 : g4 ≠ g3 := Ne.symm hne34
          clear hne
          refine p3_one ?_
          intro KK hK
          obtain ⟨⟨x0, x1, x2, x3, x4, x5⟩, xf⟩ := hp3_4.out
          go_simp
          have hB_s := Lib.hid (below_set6 hB_4.out hg3 (.bool oa) (.int .u64 sa.q) (.int .u64 sa.b) (.int .u64 sa.i) (.int .u64 sa.e) (.int .i64 sa.u))
          have hp3_s := Lib.hid (hp3_4.out.set oa sa)
          have hp4_s := Lib.hid (hp4_4.out.apart6 (c := g3) hne34 (.bool oa) (.int .u64 sa.q) (.int .u64 sa.b) (.int .u64 sa.i) (.int .u64 sa.e) (.int .i64 sa.u))
          clear x0 x1 x2 x3 x4 x5 xf hp3_4 hp4_4 hB_4
          obtain ⟨ws, ews⟩ : ∃ x, x = (((((wc4.setCell ⟨g3, 0, none⟩ (.bool oa)).setCell ⟨g3, 1, none⟩ (.int .u64 sa.q)).setCell ⟨g3, 2, none⟩ (.int .u64 sa.b)).setCell ⟨g3, 3, none⟩ (.int .u64 sa.i)).setCell ⟨g3, 4, none⟩ (.int .u64 sa.e)).setCell ⟨g3, 5, none⟩ (.int .i64 sa.u) := ⟨_, rfl⟩
          rw [← ews] at hB_s hp3_s hp4_s ⊢
          clear ews
          refine hK.out _ _ (HDe.out _ hB_s.out) ?_
          clear hK
          refine p3_one ?_
          intro KK hK
          obtain ⟨⟨x0, x1, x2, x3, x4, x5⟩, xf⟩ := hp4_s.out
          go_simp
          have hB_t := Lib.hid (below_set6 hB_s.out hg4 (.bool ob) (.int .u64 sb.q) (.int .u64 sb.b) (.int .u64 sb.i) (.int .u64 sb.e) (.int .i64 sb.u))
          have hp4_t := Lib.hid (hp4_s.out.set ob sb)
          have hp3_t := Lib.hid (hp3_s.out.apart6 (c := g4) hne43 (.bool ob) (.int .u64 sb.q) (.int .u64 sb.b) (.int .u64 sb.i) (.int .u64 sb.e) (.int .i64 sb.u))
          clear x0 x1 x2 x3 x4 x5 xf hp3_s hp4_s hB_s
          refine hK.out _ _ (HDe.out _ hB_t.out) ?_
          clear hK
          refine p3_done ?_
          go_wp2_with fail
          first | exact ⟨g3, g4, rfl, rfl, Lib.hid hp3_t.out.1, Lib.hid hp4_t.out.1, Lib.hid (HRe.out _ hB_t.out), Lib.hid (HBe.out _ hB_t.out)⟩ | (go_meet; exact ⟨g3, g4, rfl, rfl, Lib.hid hp3_t.out.1, Lib.hid hp4_t.out.1, Lib.hid (HRe.out _ hB_t.out), Lib.hid (HBe.out _ hB_t.out)⟩)
        · intro KK hK
          go_simp
          have hbx : Below wc2.heap.size wc2 (wc2.alloc (.cells #[.bool false, .int .u64 0, .int .u64 0, .int .u64 0, .int .u64 0, .int .i64 0] 64)) := (Below.refl _ _).alloc (Nat.le_refl _) _
          have hB_3 := Lib.hid (hB_2.out.trans (hbx.mono hz_2))
          have hz_3 : B0 ≤ (wc2.alloc (.cells #[.bool false, .int .u64 0, .int .u64 0, .int .u64 0, .int .u64 0, .int .i64 0] 64)).heap.size := Nat.le_trans hz_2 hbx.size
          have hp4_3 := Lib.hid (hp4_2.out.on hbx)
          have hp3_3 : Hid (FdW (wc2.alloc (.cells #[.bool false, .int .u64 0, .int .u64 0, .int .u64 0, .int .u64 0, .int .i64 0] 64)) wc2.heap.size false nilD) := Lib.hid (FdW.new wc2 false nilD _)
          have hne : Hid (g4 ≠ wc2.heap.size) := Lib.hid (Nat.ne_of_lt hp4_2.out.lt)
          clear hbx hB_2 hp4_2
          obtain ⟨wc3, ewc3⟩ : ∃ x, x = wc2.alloc (.cells #[.bool false, .int .u64 0, .int .u64 0, .int .u64 0, .int .u64 0, .int .i64 0] 64) := ⟨_, rfl⟩
          rw [← ewc3] at hB_3 hz_3 hp3_3 hp4_3 ⊢
          clear ewc3
          have hg3 : B0 ≤ wc2.heap.size := hz_2
          generalize wc2.heap.size = g3 at *
          refine hK.out _ _ (HDe.out _ hB_3.out) ?_
          clear hK
          refine p3_one ?_
          intro KK hK
          go_simp
          refine (HLB.out _ (HTe.out _ hB_3.out)).mono ?_
          rintro e wc4 ⟨rfl, hbx⟩
          have hB_4 := Lib.hid (hB_3.out.trans (hbx.mono hz_3))
          have hz_4 : B0 ≤ wc4.heap.size := Nat.le_trans hz_3 hbx.size
          have hp3_4 := Lib.hid (hp3_3.out.on hbx)
          have hp4_4 := Lib.hid (hp4_3.out.on hbx)
          clear hbx hB_3 hp3_3 hp4_3
          refine hK.out _ _ (HDe.out _ hB_4.out) ?_
          clear hK
          have hne34 : g3 ≠ g4 := by first | exact hne.out | exact (Ne.symm hne.out)
          have hne43 : g4 ≠ g3 := Ne.symm hne34
          clear hne
          refine p3_one ?_
          intro KK hK
          obtain ⟨⟨x0, x1, x2, x3, x4, x5⟩, xf⟩ := hp3_4.out
          go_simp
          have hB_s := Lib.hid (below_set6 hB_4.out hg3 (.bool oa) (.int .u64 sa.q) (.int .u64 sa.b) (.int .u64 sa.i) (.int .u64 sa.e) (.int .i64 sa.u))
          have hp3_s := Lib.hid (hp3_4.out.set oa sa)
          have hp4_s := Lib.hid (hp4_4.out.apart6 (c := g3) hne34 (.bool oa) (.int .u64 sa.q) (.int .u64 sa.b) (.int .u64 sa.i) (.int .u64 sa.e) (.int .i64 sa.u))
          clear x0 x1 x2 x3 x4 x5 xf hp3_4 hp4_4 hB_4
          obtain ⟨ws, ews⟩ : ∃ x, x = (((((wc4.setCell ⟨g3, 0, none⟩ (.bool oa)).setCell ⟨g3, 1, none⟩ (.int .u64 sa.q)).setCell ⟨g3, 2, none⟩ (.int .u64 sa.b)).setCell ⟨g3, 3, none⟩ (.int .u64 sa.i)).setCell ⟨g3, 4, none⟩ (.int .u64 sa.e)).setCell ⟨g3, 5, none⟩ (.int .i64 sa.u) := ⟨_, rfl⟩
          rw [← ews] at hB_s hp3_s hp4_s ⊢
          clear ews
          refine hK.out _ _ (HDe.out _ hB_s.out) ?_
          clear hK
          refine p3_one ?_
          intro KK hK
          obtain ⟨⟨x0, x1, x2, x3, x4, x5⟩, xf⟩ := hp4_s.out
          go_simp
          have hB_t := Lib.hid (below_set6 hB_s.out hg4 (.bool ob) (.int .u64 sb.q) (.int .u64 sb.b) (.int .u64 sb.i) (.int .u64 sb.e) (.int .i64 sb.u))
          have hp4_t := Lib.hid (hp4_s.out.set ob sb)
          have hp3_t := Lib.hid (hp3_s.out.apart6 (c := g4) hne43 (.bool ob) (.int .u64 sb.q) (.int .u64 sb.b) (.int .u64 sb.i) (.int .u64 sb.e) (.int .i64 sb.u))
          clear x0 x1 x2 x3 x4 x5 xf hp3_s hp4_s hB_s
          refine hK.out _ _ (HDe.out _ hB_t.out) ?_
          clear hK
          refine p3_done ?_
          go_wp2_with fail
          first | exact ⟨g3, g4, rfl, rfl, Lib.hid hp3_t.out.1, Lib.hid hp4_t.out.1, Lib.hid (HRe.out _ hB_t.out), Lib.hid (HBe.out _ hB_t.out)⟩ | (go_meet; exact ⟨g3, g4, rfl, rfl, Lib.hid hp3_t.out.1, Lib.hid hp4_t.out.1, Lib.hid (HRe.out _ hB_t.out), Lib.hid (HBe.out _ hB_t.out)⟩)
    · intro KK hK
      go_simp
      have hbx : Below we.heap.size we (we.alloc (.cells #[.bool false, .int .u64 0, .int .u64 0, .int .u64 0, .int .u64 0, .int .i64 0] 64)) := (Below.refl _ _).alloc (Nat.le_refl _) _
      have hB_1 := Lib.hid (hB_0.out.trans (hbx.mono hz_0))
      have hz_1 : B0 ≤ (we.alloc (.cells #[.bool false, .int .u64 0, .int .u64 0, .int .u64 0, .int .u64 0, .int .i64 0] 64)).heap.size := Nat.le_trans hz_0 hbx.size
      have hp3_1 : Hid (FdW (we.alloc (.cells #[.bool false, .int .u64 0, .int .u64 0, .int .u64 0, .int .u64 0, .int .i64 0] 64)) we.heap.size false nilD) := Lib.hid (FdW.new we false nilD _)
      clear hbx hB_0
      obtain ⟨wc1, ewc1⟩ : ∃ x, x = we.alloc (.cells #[.bool false, .int .u64 0, .int .u64 0, .int .u64 0, .int .u64 0, .int .i64 0] 64) := ⟨_, rfl⟩
      rw [← ewc1] at hB_1 hz_1 hp3_1 ⊢
      clear ewc1
      have hg3 : B0 ≤ we.heap.size := hz_0
      generalize we.heap.size = g3 at *
      refine hK.out _ _ (HDe.out _ hB_1.out) ?_
      clear hK
      refine p3_two ?_ ?_
      · intro KK hK
        go_simp
        refine (HLA.out _ (HTe.out _ hB_1.out)).mono ?_
        rintro e wc2 ⟨rfl, hbx⟩
        have hB_2 := Lib.hid (hB_1.out.trans (hbx.mono hz_1))
        have hz_2 : B0 ≤ wc2.heap.size := Nat.le_trans hz_1 hbx.size
        have hp3_2 := Lib.hid (hp3_1.out.on hbx)
        clear hbx hB_1 hp3_1
        refine hK.out _ _ (HDe.out _ hB_2.out) ?_
        clear hK
        refine p3_two ?_ ?_
        · intro KK hK
          go_simp
          refine (HLB.out _ (HTe.out _ hB_2.out)).mono ?_
          rintro e wc3 ⟨rfl, hbx⟩
          have hB_3 := Lib.hid (hB_2.out.trans (hbx.mono hz_2))
          have hz_3 : B0 ≤ wc3.heap.size := Nat.le_trans hz_2 hbx.size
          have hp3_3 := Lib.hid (hp3_2.out.on hbx)
          clear hbx hB_2 hp3_2
          refine hK.out _ _ (HDe.out _ hB_3.out) ?_
          clear hK
          refine p3_one ?_
          intro KK hK
          go_simp
          have hbx : Below wc3.heap.size wc3 (wc3.alloc (.cells #[.bool false, .int .u64 0, .int .u64 0, .int .u64 0, .int .u64 0, .int .i64 0] 64)) := (Below.refl _ _).alloc (Nat.le_refl _) _
          have hB_4 := Lib.hid (hB_3.out.trans (hbx.mono hz_3))
          have hz_4 : B0 ≤ (wc3.alloc (.cells #[.bool false, .int .u64 0, .int .u64 0, .int .u64 0, .int .u64 0, .int .i64 0] 64)).heap.size := Nat.le_trans hz_3 hbx.size
          have hp3_4 := Lib.hid (hp3_3.out.on hbx)
          have hp4_4 : Hid (FdW (wc3.alloc (.cells #[.bool false, .int .u64 0, .int .u64 0, .int .u64 0, .int .u64 0, .int .i64 0] 64)) wc3.heap.size false nilD) := Lib.hid (FdW.new wc3 false nilD _)
          have hne : Hid (g3 ≠ wc3.heap.size) := Lib.hid (Nat.ne_of_lt hp3_3.out.lt)
          clear hbx hB_3 hp3_3
          obtain ⟨wc4, ewc4⟩ : ∃ x, x = wc3.alloc (.cells #[.bool false, .int .u64 0, .int .u64 0, .int .u64 0, .int .u64 0, .int .i64 0] 64) := ⟨_, rfl⟩
          rw [← ewc4] at hB_4 hz_4 hp4_4 hp3_4 ⊢
          clear ewc4
          have hg4 : B0 ≤ wc3.heap.size := hz_3
          generalize wc3.heap.size = g4 at *
          refine hK.out _ _ (HDe.out _ hB_4.out) ?_
          clear hK
          have hne34 : g3 ≠ g4 := by first | exact hne.out | exact (Ne.symm hne.out)
          have hne43 : g4 ≠ g3 := Ne.symm hne34
          clear hne
          refine p3_one ?_
          intro KK hK
          obtain ⟨⟨x0, x1, x2, x3, x4, x5⟩, xf⟩ := hp3_4.out
          go_simp
          have hB_s := Lib.hid (below_set6 hB_4.out hg3 (.bool oa) (.int .u64 sa.q) (.int .u64 sa.b) (.int .u64 sa.i) (.int .u64 sa.e) (.int .i64 sa.u))
          have hp3_s := Lib.hid (hp3_4.out.set oa sa)
          have hp4_s := Lib.hid (hp4_4.out.apart6 (c := g3) hne34 (.bool oa) (.int .u64 sa.q) (.int .u64 sa.b) (.int .u64 sa.i) (.int .u64 sa.e) (.int .i64 sa.u))
          clear x0 x1 x2 x3 x4 x5 xf hp3_4 hp4_4 hB_4
          obtain ⟨ws, ews⟩ : ∃ x, x = (((((wc4.setCell ⟨g3, 0, none⟩ (.bool oa)).setCell ⟨g3, 1, none⟩ (.int .u64 sa.q)).setCell ⟨g3, 2, none⟩ (.int .u64 sa.b)).setCell ⟨g3, 3, none⟩ (.int .u64 sa.i)).setCell ⟨g3, 4, none⟩ (.int .u64 sa.e)).setCell ⟨g3, 5, none⟩ (.int .i64 sa.u) := ⟨_, rfl⟩
          rw [← ews] at hB_s hp3_s hp4_s ⊢
          clear ews
          refine hK.out _ _ (HDe.out _ hB_s.out) ?_
          clear hK
          refine p3_one ?_
          intro KK hK
          obtain ⟨⟨x0, x1, x2, x3, x4, x5⟩, xf⟩ := hp4_s.out
          go_simp
          have hB_t := Lib.hid (below_set6 hB_s.out hg4 (.bool ob) (.int .u64 sb.q) (.int .u64 sb.b) (.int .u64 sb.i) (.int .u64 sb.e) (.int .i64 sb.u))
          have hp4_t := Lib.hid (hp4_s.out.set ob sb)
          have hp3_t := Lib.hid (hp3_s.out.apart6 (c := g4) hne43 (.bool ob) (.int .u64 sb.q) (.int .u64 sb.b) (.int .u64 sb.i) (.int .u64 sb.e) (.int .i64 sb.u))
          clear x0 x1 x2 x3 x4 x5 xf hp3_s hp4_s hB_s
          refine hK.out _ _ (HDe.out _ hB_t.out) ?_
          clear hK
          refine p3_done ?_
          go_wp2_with fail
          first | exact ⟨g3, g4, rfl, rfl, Lib.hid hp3_t.out.1, Lib.hid hp4_t.out.1, Lib.hid (HRe.out _ hB_t.out), Lib.hid (HBe.out _ hB_t.out)⟩ | (go_meet; exact ⟨g3, g4, rfl, rfl, Lib.hid hp3_t.out.1, Lib.hid hp4_t.out.1, Lib.hid (HRe.out _ hB_t.out), Lib.hid (HBe.out _ hB_t.out)⟩)
        · intro KK hK
          go_simp
          have hbx : Below wc2.heap.size wc2 (wc2.alloc (.cells #[.bool false, .int .u64 0, .int .u64 0, .int .u64 0, .int .u64 0, .int .i64 0] 64)) := (Below.refl _ _).alloc (Nat.le_refl _) _
          have hB_3 := Lib.hid (hB_2.out.trans (hbx.mono hz_2))
          have hz_3 : B0 ≤ (wc2.alloc (.cells #[.bool false, .int .u64 0, .int .u64 0, .int .u64 0, .int .u64 0, .int .i64 0] 64)).heap.size := Nat.le_trans hz_2 hbx.size
          have hp3_3 := Lib.hid (hp3_2.out.on hbx)
          have hp4_3 : Hid (FdW (wc2.alloc (.cells #[.bool false, .int .u64 0, .int .u64 0, .int .u64 0, .int .u64 0, .int .i64 0] 64)) wc2.heap.size false nilD) := Lib.hid (FdW.new wc2 false nilD _)
          have hne : Hid (g3 ≠ wc2.heap.size) := Lib.hid (Nat.ne_of_lt hp3_2.out.lt)
          clear hbx hB_2 hp3_2
          obtain ⟨wc3, ewc3⟩ : ∃ x, x = wc2.alloc (.cells #[.bool false, .int .u64 0, .int .u64 0, .int .u64 0, .int .u64 0, .int .i64 0] 64) := ⟨_, rfl⟩
          rw [← ewc3] at hB_3 hz_3 hp4_3 hp3_3 ⊢
          clear ewc3
          have hg4 : B0 ≤ wc2.heap.size := hz_2
          generalize wc2.heap.size = g4 at *
          refine hK.out _ _ (HDe.out _ hB_3.out) ?_
          clear hK
          refine p3_one ?_
          intro KK hK
          go_simp
          refine (HLB.out _ (HTe.out _ hB_3.out)).mono ?_
          rintro e wc4 ⟨rfl, hbx⟩
          have hB_4 := Lib.hid (hB_3.out.trans (hbx.mono hz_3))
          have hz_4 : B0 ≤ wc4.heap.size := Nat.le_trans hz_3 hbx.size
          have hp3_4 := Lib.hid (hp3_3.out.on hbx)
          have hp4_4 := Lib.hid (hp4_3.out.on hbx)
          clear hbx hB_3 hp3_3 hp4_3
          refine hK.out _ _ (HDe.out _ hB_4.out) ?_
          clear hK
          have hne34 : g3 ≠ g4 := by first | exact hne.out | exact (Ne.symm hne.out)
          have hne43 : g4 ≠ g3 := Ne.symm hne34
          clear hne
          refine p3_one ?_
          intro KK hK
          obtain ⟨⟨x0, x1, x2, x3, x4, x5⟩, xf⟩ := hp3_4.out
          go_simp
          have hB_s := Lib.hid (below_set6 hB_4.out hg3 (.bool oa) (.int .u64 sa.q) (.int .u64 sa.b) (.int .u64 sa.i) (.int .u64 sa.e) (.int .i64 sa.u))
          have hp3_s := Lib.hid (hp3_4.out.set oa sa)
          have hp4_s := Lib.hid (hp4_4.out.apart6 (c := g3) hne34 (.bool oa) (.int .u64 sa.q) (.int .u64 sa.b) (.int .u64 sa.i) (.int .u64 sa.e) (.int .i64 sa.u))
          clear x0 x1 x2 x3 x4 x5 xf hp3_4 hp4_4 hB_4
          obtain ⟨ws, ews⟩ : ∃ x, x = (((((wc4.setCell ⟨g3, 0, none⟩ (.bool oa)).setCell ⟨g3, 1, none⟩ (.int .u64 sa.q)).setCell ⟨g3, 2, none⟩ (.int .u64 sa.b)).setCell ⟨g3, 3, none⟩ (.int .u64 sa.i)).setCell ⟨g3, 4, none⟩ (.int .u64 sa.e)).setCell ⟨g3, 5, none⟩ (.int .i64 sa.u) := ⟨_, rfl⟩
          rw [← ews] at hB_s hp3_s hp4_s ⊢
          clear ews
          refine hK.out _ _ (HDe.out _ hB_s.out) ?_
          clear hK
          refine p3_one ?_
          intro KK hK
          obtain ⟨⟨x0, x1, x2, x3, x4, x5⟩, xf⟩ := hp4_s.out
          go_simp
          have hB_t := Lib.hid (below_set6 hB_s.out hg4 (.bool ob) (.int .u64 sb.q) (.int .u64 sb.b) (.int .u64 sb.i) (.int .u64 sb.e) (.int .i64 sb.u))
          have hp4_t := Lib.hid (hp4_s.out.set ob sb)
          have hp3_t := Lib.hid (hp3_s.out.apart6 (c := g4) hne43 (.bool ob) (.int .u64 sb.q) (.int .u64 sb.b) (.int .u64 sb.i) (.int .u64 sb.e) (.int .i64 sb.u))
          clear x0 x1 x2 x3 x4 x5 xf hp3_s hp4_s hB_s
          refine hK.out _ _ (HDe.out _ hB_t.out) ?_
          clear hK
          refine p3_done ?_
          go_wp2_with fail
          first | exact ⟨g3, g4, rfl, rfl, Lib.hid hp3_t.out.1, Lib.hid hp4_t.out.1, Lib.hid (HRe.out _ hB_t.out), Lib.hid (HBe.out _ hB_t.out)⟩ | (go_meet; exact ⟨g3, g4, rfl, rfl, Lib.hid hp3_t.out.1, Lib.hid hp4_t.out.1, Lib.hid (HRe.out _ hB_t.out), Lib.hid (HBe.out _ hB_t.out)⟩)
      · intro KK hK
        go_simp
        have hbx : Below wc1.heap.size wc1 (wc1.alloc (.cells #[.bool false, .int .u64 0, .int .u64 0, .int .u64 0, .int .u64 0, .int .i64 0] 64)) := (Below.refl _ _).alloc (Nat.le_refl _) _
        have hB_2 := Lib.hid (hB_1.out.trans (hbx.mono hz_1))
        have hz_2 : B0 ≤ (wc1.alloc (.cells #[.bool false, .int .u64 0, .int .u64 0, .int .u64 0, .int .u64 0, .int .i64 0] 64)).heap.size := Nat.le_trans hz_1 hbx.size
        have hp3_2 := Lib.hid (hp3_1.out.on hbx)
        have hp4_2 : Hid (FdW (wc1.alloc (.cells #[.bool false, .int .u64 0, .int .u64 0, .int .u64 0, .int .u64 0, .int .i64 0] 64)) wc1.heap.size false nilD) := Lib.hid (FdW.new wc1 false nilD _)
        have hne : Hid (g3 ≠ wc1.heap.size) := Lib.hid (Nat.ne_of_lt hp3_1.out.lt)
        clear hbx hB_1 hp3_1
        obtain ⟨wc2, ewc2⟩ : ∃ x, x = wc1.alloc (.cells #[.bool false, .int .u64 0, .int .u64 0, .int .u64 0, .int .u64 0, .int .i64 0] 64) := ⟨_, rfl⟩
        rw [← ewc2] at hB_2 hz_2 hp4_2 hp3_2 ⊢
        clear ewc2
        have hg4 : B0 ≤ wc1.heap.size := hz_1
        generalize wc1.heap.size = g4 at *
        refine hK.out _ _ (HDe.out _ hB_2.out) ?_
        clear hK
        refine p3_one ?_
        intro KK hK
        go_simp
        refine (HLA.out _ (HTe.out _ hB_2.out)).mono ?_
        rintro e wc3 ⟨rfl, hbx⟩
        have hB_3 := Lib.hid (hB_2.out.trans (hbx.mono hz_2))
        have hz_3 : B0 ≤ wc3.heap.size := Nat.le_trans hz_2 hbx.size
        have hp3_3 := Lib.hid (hp3_2.out.on hbx)
        have hp4_3 := Lib.hid (hp4_2.out.on hbx)
        clear hbx hB_2 hp3_2 hp4_2
        refine hK.out _ _ (HDe.out _ hB_3.out) ?_
        clear hK
        refine p3_one ?_
        intro KK hK
        go_simp
        refine (HLB.out _ (HTe.out _ hB_3.out)).mono ?_
        rintro e wc4 ⟨rfl, hbx⟩
        have hB_4 := Lib.hid (hB_3.out.trans (hbx.mono hz_3))
        have hz_4 : B0 ≤ wc4.heap.size := Nat.le_trans hz_3 hbx.size
        have hp3_4 := Lib.hid (hp3_3.out.on hbx)
        have hp4_4 := Lib.hid (hp4_3.out.on hbx)
        clear hbx hB_3 hp3_3 hp4_3
        refine hK.out _ _ (HDe.out _ hB_4.out) ?_
        clear hK
        have hne34 : g3 ≠ g4 := by first | exact hne.out | exact (Ne.symm hne.out)
        have hne43 : g4 ≠ g3 := Ne.symm hne34
        clear hne
        refine p3_one ?_
        intro KK hK
        obtain ⟨⟨x0, x1, x2, x3, x4, x5⟩, xf⟩ := hp3_4.out
        go_simp
        have hB_s := Lib.hid (below_set6 hB_4.out hg3 (.bool oa) (.int .u64 sa.q) (.int .u64 sa.b) (.int .u64 sa.i) (.int .u64 sa.e) (.int .i64 sa.u))
        have hp3_s := Lib.hid (hp3_4.out.set oa sa)
        have hp4_s := Lib.hid (hp4_4.out.apart6 (c := g3) hne34 (.bool oa) (.int .u64 sa.q) (.int .u64 sa.b) (.int .u64 sa.i) (.int .u64 sa.e) (.int .i64 sa.u))
        clear x0 x1 x2 x3 x4 x5 xf hp3_4 hp4_4 hB_4
        obtain ⟨ws, ews⟩ : ∃ x, x = (((((wc4.setCell ⟨g3, 0, none⟩ (.bool oa)).setCell ⟨g3, 1, none⟩ (.int .u64 sa.q)).setCell ⟨g3, 2, none⟩ (.int .u64 sa.b)).setCell ⟨g3, 3, none⟩ (.int .u64 sa.i)).setCell ⟨g3, 4, none⟩ (.int .u64 sa.e)).setCell ⟨g3, 5, none⟩ (.int .i64 sa.u) := ⟨_, rfl⟩
        rw [← ews] at hB_s hp3_s hp4_s ⊢
        clear ews
        refine hK.out _ _ (HDe.out _ hB_s.out) ?_
        clear hK
        refine p3_one ?_
        intro KK hK
        obtain ⟨⟨x0, x1, x2, x3, x4, x5⟩, xf⟩ := hp4_s.out
        go_simp
        have hB_t := Lib.hid (below_set6 hB_s.out hg4 (.bool ob) (.int .u64 sb.q) (.int .u64 sb.b) (.int .u64 sb.i) (.int .u64 sb.e) (.int .i64 sb.u))
        have hp4_t := Lib.hid (hp4_s.out.set ob sb)
        have hp3_t := Lib.hid (hp3_s.out.apart6 (c := g4) hne43 (.bool ob) (.int .u64 sb.q) (.int .u64 sb.b) (.int .u64 sb.i) (.int .u64 sb.e) (.int .i64 sb.u))
        clear x0 x1 x2 x3 x4 x5 xf hp3_s hp4_s hB_s
        refine hK.out _ _ (HDe.out _ hB_t.out) ?_
        clear hK
        refine p3_done ?_
        go_wp2_with fail
        first | exact ⟨g3, g4, rfl, rfl, Lib.hid hp3_t.out.1, Lib.hid hp4_t.out.1, Lib.hid (HRe.out _ hB_t.out), Lib.hid (HBe.out _ hB_t.out)⟩ | (go_meet; exact ⟨g3, g4, rfl, rfl, Lib.hid hp3_t.out.1, Lib.hid hp4_t.out.1, Lib.hid (HRe.out _ hB_t.out), Lib.hid (HBe.out _ hB_t.out)⟩)
    · intro KK hK
      go_simp
      have hbx : Below we.heap.size we (we.alloc (.cells #[.bool false, .int .u64 0, .int .u64 0, .int .u64 0, .int .u64 0, .int .i64 0] 64)) := (Below.refl _ _).alloc (Nat.le_refl _) _
      have hB_1 := Lib.hid (hB_0.out.trans (hbx.mono hz_0))
      have hz_1 : B0 ≤ (we.alloc (.cells #[.bool false, .int .u64 0, .int .u64 0, .int .u64 0, .int .u64 0, .int .i64 0] 64)).heap.size := Nat.le_trans hz_0 hbx.size
      have hp4_1 : Hid (FdW (we.alloc (.cells #[.bool false, .int .u64 0, .int .u64 0, .int .u64 0, .int .u64 0, .int .i64 0] 64)) we.heap.size false nilD) := Lib.hid (FdW.new we false nilD _)
      clear hbx hB_0
      obtain ⟨wc1, ewc1⟩ : ∃ x, x = we.alloc (.cells #[.bool false, .int .u64 0, .int .u64 0, .int .u64 0, .int .u64 0, .int .i64 0] 64) := ⟨_, rfl⟩
      rw [← ewc1] at hB_1 hz_1 hp4_1 ⊢
      clear ewc1
      have hg4 : B0 ≤ we.heap.size := hz_0
      generalize we.heap.size = g4 at *
      refine hK.out _ _ (HDe.out _ hB_1.out) ?_
      clear hK
      refine p3_two ?_ ?_
      · intro KK hK
        go_simp
        refine (HLA.out _ (HTe.out _ hB_1.out)).mono ?_
        rintro e wc2 ⟨rfl, hbx⟩
        have hB_2 := Lib.hid (hB_1.out.trans (hbx.mono hz_1))
        have hz_2 : B0 ≤ wc2.heap.size := Nat.le_trans hz_1 hbx.size
        have hp4_2 := Lib.hid (hp4_1.out.on hbx)
        clear hbx hB_1 hp4_1
        refine hK.out _ _ (HDe.out _ hB_2.out) ?_
        clear hK
        refine p3_two ?_ ?_
        · intro KK hK
          go_simp
          refine (HLB.out _ (HTe.out _ hB_2.out)).mono ?_
          rintro e wc3 ⟨rfl, hbx⟩
          have hB_3 := Lib.hid (hB_2.out.trans (hbx.mono hz_2))
          have hz_3 : B0 ≤ wc3.heap.size := Nat.le_trans hz_2 hbx.size
          have hp4_3 := Lib.hid (hp4_2.out.on hbx)
          clear hbx hB_2 hp4_2
          refine hK.out _ _ (HDe.out _ hB_3.out) ?_
          clear hK
          refine p3_one ?_
          intro KK hK
          go_simp
          have hbx : Below wc3.heap.size wc3 (wc3.alloc (.cells #[.bool false, .int .u64 0, .int .u64 0, .int .u64 0, .int .u64 0, .int .i64 0] 64)) := (Below.refl _ _).alloc (Nat.le_refl _) _
          have hB_4 := Lib.hid (hB_3.out.trans (hbx.mono hz_3))
          have hz_4 : B0 ≤ (wc3.alloc (.cells #[.bool false, .int .u64 0, .int .u64 0, .int .u64 0, .int .u64 0, .int .i64 0] 64)).heap.size := Nat.le_trans hz_3 hbx.size
          have hp4_4 := Lib.hid (hp4_3.out.on hbx)
          have hp3_4 : Hid (FdW (wc3.alloc (.cells #[.bool false, .int .u64 0, .int .u64 0, .int .u64 0, .int .u64 0, .int .i64 0] 64)) wc3.heap.size false nilD) := Lib.hid (FdW.new wc3 false nilD _)
          have hne : Hid (g4 ≠ wc3.heap.size) := Lib.hid (Nat.ne_of_lt hp4_3.out.lt)
          clear hbx hB_3 hp4_3
          obtain ⟨wc4, ewc4⟩ : ∃ x, x = wc3.alloc (.cells #[.bool false, .int .u64 0, .int .u64 0, .int .u64 0, .int .u64 0, .int .i64 0] 64) := ⟨_, rfl⟩
          rw [← ewc4] at hB_4 hz_4 hp3_4 hp4_4 ⊢
          clear ewc4
          have hg3 : B0 ≤ wc3.heap.size := hz_3
          generalize wc3.heap.size = g3 at *
          refine hK.out _ _ (HDe.out _ hB_4.out) ?_
          clear hK
          have hne34 : g3 ≠ g4 := by first | exact hne.out | exact (Ne.symm hne.out)
          have hne43 : g4 ≠ g3 := Ne.symm hne34
          clear hne
          refine p3_one ?_
          intro KK hK
          obtain ⟨⟨x0, x1, x2, x3, x4, x5⟩, xf⟩ := hp3_4.out
          go_simp
          have hB_s := Lib.hid (below_set6 hB_4.out hg3 (.bool oa) (.int .u64 sa.q) (.int .u64 sa.b) (.int .u64 sa.i) (.int .u64 sa.e) (.int .i64 sa.u))
          have hp3_s := Lib.hid (hp3_4.out.set oa sa)
          have hp4_s := Lib.hid (hp4_4.out.apart6 (c := g3) hne34 (.bool oa) (.int .u64 sa.q) (.int .u64 sa.b) (.int .u64 sa.i) (.int .u64 sa.e) (.int .i64 sa.u))
          clear x0 x1 x2 x3 x4 x5 xf hp3_4 hp4_4 hB_4
          obtain ⟨ws, ews⟩ : ∃ x, x = (((((wc4.setCell ⟨g3, 0, none⟩ (.bool oa)).setCell ⟨g3, 1, none⟩ (.int .u64 sa.q)).setCell ⟨g3, 2, none⟩ (.int .u64 sa.b)).setCell ⟨g3, 3, none⟩ (.int .u64 sa.i)).setCell ⟨g3, 4, none⟩ (.int .u64 sa.e)).setCell ⟨g3, 5, none⟩ (.int .i64 sa.u) := ⟨_, rfl⟩
          rw [← ews] at hB_s hp3_s hp4_s ⊢
          clear ews
          refine hK.out _ _ (HDe.out _ hB_s.out) ?_
          clear hK
          refine p3_one ?_
          intro KK hK
          obtain ⟨⟨x0, x1, x2, x3, x4, x5⟩, xf⟩ := hp4_s.out
          go_simp
          have hB_t := Lib.hid (below_set6 hB_s.out hg4 (.bool ob) (.int .u64 sb.q) (.int .u64 sb.b) (.int .u64 sb.i) (.int .u64 sb.e) (.int .i64 sb.u))
          have hp4_t := Lib.hid (hp4_s.out.set ob sb)
          have hp3_t := Lib.hid (hp3_s.out.apart6 (c := g4) hne43 (.bool ob) (.int .u64 sb.q) (.int .u64 sb.b) (.int .u64 sb.i) (.int .u64 sb.e) (.int .i64 sb.u))
          clear x0 x1 x2 x3 x4 x5 xf hp3_s hp4_s hB_s
          refine hK.out _ _ (HDe.out _ hB_t.out) ?_
          clear hK
          refine p3_done ?_
          go_wp2_with fail
          first | exact ⟨g3, g4, rfl, rfl, Lib.hid hp3_t.out.1, Lib.hid hp4_t.out.1, Lib.hid (HRe.out _ hB_t.out), Lib.hid (HBe.out _ hB_t.out)⟩ | (go_meet; exact ⟨g3, g4, rfl, rfl, Lib.hid hp3_t.out.1, Lib.hid hp4_t.out.1, Lib.hid (HRe.out _ hB_t.out), Lib.hid (HBe.out _ hB_t.out)⟩)
        · intro KK hK
          go_simp
          have hbx : Below wc2.heap.size wc2 (wc2.alloc (.cells #[.bool false, .int .u64 0, .int .u64 0, .int .u64 0, .int .u64 0, .int .i64 0] 64)) := (Below.refl _ _).alloc (Nat.le_refl _) _
          have hB_3 := Lib.hid (hB_2.out.trans (hbx.mono hz_2))
          have hz_3 : B0 ≤ (wc2.alloc (.cells #[.bool false, .int .u64 0, .int .u64 0, .int .u64 0, .int .u64 0, .int .i64 0] 64)).heap.size := Nat.le_trans hz_2 hbx.size
          have hp4_3 := Lib.hid (hp4_2.out.on hbx)
          have hp3_3 : Hid (FdW (wc2.alloc (.cells #[.bool false, .int .u64 0, .int .u64 0, .int .u64 0, .int .u64 0, .int .i64 0] 64)) wc2.heap.size false nilD) := Lib.hid (FdW.new wc2 false nilD _)
          have hne : Hid (g4 ≠ wc2.heap.size) := Lib.hid (Nat.ne_of_lt hp4_2.out.lt)
          clear hbx hB_2 hp4_2
          obtain ⟨wc3, ewc3⟩ : ∃ x, x = wc2.alloc (.cells #[.bool false, .int .u64 0, .int .u64 0, .int .u64 0, .int .u64 0, .int .i64 0] 64) := ⟨_, rfl⟩
          rw [← ewc3] at hB_3 hz_3 hp3_3 hp4_3 ⊢
          clear ewc3
          have hg3 : B0 ≤ wc2.heap.size := hz_2
          generalize wc2.heap.size = g3 at *
          refine hK.out _ _ (HDe.out _ hB_3.out) ?_
          clear hK
          refine p3_one ?_
          intro KK hK
          go_simp
          refine (HLB.out _ (HTe.out _ hB_3.out)).mono ?_
          rintro e wc4 ⟨rfl, hbx⟩
          have hB_4 := Lib.hid (hB_3.out.trans (hbx.mono hz_3))
          have hz_4 : B0 ≤ wc4.heap.size := Nat.le_trans hz_3 hbx.size
          have hp3_4 := Lib.hid (hp3_3.out.on hbx)
          have hp4_4 := Lib.hid (hp4_3.out.on hbx)
          clear hbx hB_3 hp3_3 hp4_3
          refine hK.out _ _ (HDe.out _ hB_4.out) ?_
          clear hK
          have hne34 : g3 ≠ g4 := by first | exact hne.out | exact (Ne.symm hne.out)
          have hne43 : g4 ≠ g3 := Ne.symm hne34
          clear hne
          refine p3_one ?_
          intro KK hK
          obtain ⟨⟨x0, x1, x2, x3, x4, x5⟩, xf⟩ := hp3_4.out
          go_simp
          have hB_s := Lib.hid (below_set6 hB_4.out hg3 (.bool oa) (.int .u64 sa.q) (.int .u64 sa.b) (.int .u64 sa.i) (.int .u64 sa.e) (.int .i64 sa.u))
          have hp3_s := Lib.hid (hp3_4.out.set oa sa)
          have hp4_s := Lib.hid (hp4_4.out.apart6 (c := g3) hne34 (.bool oa) (.int .u64 sa.q) (.int .u64 sa.b) (.int .u64 sa.i) (.int .u64 sa.e) (.int .i64 sa.u))
          clear x0 x1 x2 x3 x4 x5 xf hp3_4 hp4_4 hB_4
          obtain ⟨ws, ews⟩ : ∃ x, x = (((((wc4.setCell ⟨g3, 0, none⟩ (.bool oa)).setCell ⟨g3, 1, none⟩ (.int .u64 sa.q)).setCell ⟨g3, 2, none⟩ (.int .u64 sa.b)).setCell ⟨g3, 3, none⟩ (.int .u64 sa.i)).setCell ⟨g3, 4, none⟩ (.int .u64 sa.e)).setCell ⟨g3, 5, none⟩ (.int .i64 sa.u) := ⟨_, rfl⟩
          rw [← ews] at hB_s hp3_s hp4_s ⊢
          clear ews
          refine hK.out _ _ (HDe.out _ hB_s.out) ?_
          clear hK
          refine p3_one ?_
          intro KK hK
          obtain ⟨⟨x0, x1, x2, x3, x4, x5⟩, xf⟩ := hp4_s.out
          go_simp
          have hB_t := Lib.hid (below_set6 hB_s.out hg4 (.bool ob) (.int .u64 sb.q) (.int .u64 sb.b) (.int .u64 sb.i) (.int .u64 sb.e) (.int .i64 sb.u))
          have hp4_t := Lib.hid (hp4_s.out.set ob sb)
          have hp3_t := Lib.hid (hp3_s.out.apart6 (c := g4) hne43 (.bool ob) (.int .u64 sb.q) (.int .u64 sb.b) (.int .u64 sb.i) (.int .u64 sb.e) (.int .i64 sb.u))
          clear x0 x1 x2 x3 x4 x5 xf hp3_s hp4_s hB_s
          refine hK.out _ _ (HDe.out _ hB_t.out) ?_
          clear hK
          refine p3_done ?_
          go_wp2_with fail
          first | exact ⟨g3, g4, rfl, rfl, Lib.hid hp3_t.out.1, Lib.hid hp4_t.out.1, Lib.hid (HRe.out _ hB_t.out), Lib.hid (HBe.out _ hB_t.out)⟩ | (go_meet; exact ⟨g3, g4, rfl, rfl, Lib.hid hp3_t.out.1, Lib.hid hp4_t.out.1, Lib.hid (HRe.out _ hB_t.out), Lib.hid (HBe.out _ hB_t.out)⟩)
      · intro KK hK
        go_simp
        have hbx : Below wc1.heap.size wc1 (wc1.alloc (.cells #[.bool false, .int .u64 0, .int .u64 0, .int .u64 0, .int .u64 0, .int .i64 0] 64)) := (Below.refl _ _).alloc (Nat.le_refl _) _
        have hB_2 := Lib.hid (hB_1.out.trans (hbx.mono hz_1))
        have hz_2 : B0 ≤ (wc1.alloc (.cells #[.bool false, .int .u64 0, .int .u64 0, .int .u64 0, .int .u64 0, .int .i64 0] 64)).heap.size := Nat.le_trans hz_1 hbx.size
        have hp4_2 := Lib.hid (hp4_1.out.on hbx)
        have hp3_2 : Hid (FdW (wc1.alloc (.cells #[.bool false, .int .u64 0, .int .u64 0, .int .u64 0, .int .u64 0, .int .i64 0] 64)) wc1.heap.size false nilD) := Lib.hid (FdW.new wc1 false nilD _)
        have hne : Hid (g4 ≠ wc1.heap.size) := Lib.hid (Nat.ne_of_lt hp4_1.out.lt)
        clear hbx hB_1 hp4_1
        obtain ⟨wc2, ewc2⟩ : ∃ x, x = wc1.alloc (.cells #[.bool false, .int .u64 0, .int .u64 0, .int .u64 0, .int .u64 0, .int .i64 0] 64) := ⟨_, rfl⟩
        rw [← ewc2] at hB_2 hz_2 hp3_2 hp4_2 ⊢
        clear ewc2
        have hg3 : B0 ≤ wc1.heap.size := hz_1
        generalize wc1.heap.size = g3 at *
        refine hK.out _ _ (HDe.out _ hB_2.out) ?_
        clear hK
        refine p3_one ?_
        intro KK hK
        go_simp
        refine (HLA.out _ (HTe.out _ hB_2.out)).mono ?_
        rintro e wc3 ⟨rfl, hbx⟩
        have hB_3 := Lib.hid (hB_2.out.trans (hbx.mono hz_2))
        have hz_3 : B0 ≤ wc3.heap.size := Nat.le_trans hz_2 hbx.size
        have hp3_3 := Lib.hid (hp3_2.out.on hbx)
        have hp4_3 := Lib.hid (hp4_2.out.on hbx)
        clear hbx hB_2 hp3_2 hp4_2
        refine hK.out _ _ (HDe.out _ hB_3.out) ?_
        clear hK
        refine p3_one ?_
        intro KK hK
        go_simp
        refine (HLB.out _ (HTe.out _ hB_3.out)).mono ?_
        rintro e wc4 ⟨rfl, hbx⟩
        have hB_4 := Lib.hid (hB_3.out.trans (hbx.mono hz_3))
        have hz_4 : B0 ≤ wc4.heap.size := Nat.le_trans hz_3 hbx.size
        have hp3_4 := Lib.hid (hp3_3.out.on hbx)
        have hp4_4 := Lib.hid (hp4_3.out.on hbx)
        clear hbx hB_3 hp3_3 hp4_3
        refine hK.out _ _ (HDe.out _ hB_4.out) ?_
        clear hK
        have hne34 : g3 ≠ g4 := by first | exact hne.out | exact (Ne.symm hne.out)
        have hne43 : g4 ≠ g3 := Ne.symm hne34
        clear hne
        refine p3_one ?_
        intro KK hK
        obtain ⟨⟨x0, x1, x2, x3, x4, x5⟩, xf⟩ := hp3_4.out
        go_simp
        have hB_s := Lib.hid (below_set6 hB_4.out hg3 (.bool oa) (.int .u64 sa.q) (.int .u64 sa.b) (.int .u64 sa.i) (.int .u64 sa.e) (.int .i64 sa.u))
        have hp3_s := Lib.hid (hp3_4.out.set oa sa)
        have hp4_s := Lib.hid (hp4_4.out.apart6 (c := g3) hne34 (.bool oa) (.int .u64 sa.q) (.int .u64 sa.b) (.int .u64 sa.i) (.int .u64 sa.e) (.int .i64 sa.u))
        clear x0 x1 x2 x3 x4 x5 xf hp3_4 hp4_4 hB_4
        obtain ⟨ws, ews⟩ : ∃ x, x = (((((wc4.setCell ⟨g3, 0, none⟩ (.bool oa)).setCell ⟨g3, 1, none⟩ (.int .u64 sa.q)).setCell ⟨g3, 2, none⟩ (.int .u64 sa.b)).setCell ⟨g3, 3, none⟩ (.int .u64 sa.i)).setCell ⟨g3, 4, none⟩ (.int .u64 sa.e)).setCell ⟨g3, 5, none⟩ (.int .i64 sa.u) := ⟨_, rfl⟩
        rw [← ews] at hB_s hp3_s hp4_s ⊢
        clear ews
        refine hK.out _ _ (HDe.out _ hB_s.out) ?_
        clear hK
        refine p3_one ?_
        intro KK hK
        obtain ⟨⟨x0, x1, x2, x3, x4, x5⟩, xf⟩ := hp4_s.out
        go_simp
        have hB_t := Lib.hid (below_set6 hB_s.out hg4 (.bool ob) (.int .u64 sb.q) (.int .u64 sb.b) (.int .u64 sb.i) (.int .u64 sb.e) (.int .i64 sb.u))
        have hp4_t := Lib.hid (hp4_s.out.set ob sb)
        have hp3_t := Lib.hid (hp3_s.out.apart6 (c := g4) hne43 (.bool ob) (.int .u64 sb.q) (.int .u64 sb.b) (.int .u64 sb.i) (.int .u64 sb.e) (.int .i64 sb.u))
        clear x0 x1 x2 x3 x4 x5 xf hp3_s hp4_s hB_s
        refine hK.out _ _ (HDe.out _ hB_t.out) ?_
        clear hK
        refine p3_done ?_
        go_wp2_with fail
        first | exact ⟨g3, g4, rfl, rfl, Lib.hid hp3_t.out.1, Lib.hid hp4_t.out.1, Lib.hid (HRe.out _ hB_t.out), Lib.hid (HBe.out _ hB_t.out)⟩ | (go_meet; exact ⟨g3, g4, rfl, rfl, Lib.hid hp3_t.out.1, Lib.hid hp4_t.out.1, Lib.hid (HRe.out _ hB_t.out), Lib.hid (HBe.out _ hB_t.out)⟩)
  case rest =>
    obtain ⟨g3, g4, rfl, rfl, h3, h4, hr, hB⟩ := hcut
    obtain ⟨a0, a1, a2, a3, a4, a5⟩ := h3.out
    obtain ⟨b0, b1, b2, b3, b4, b5⟩ := h4.out
    obtain ⟨⟨r0, r1, r2, r3, r4, r5⟩, rf⟩ := hr.out
    simp only [nilD] at r0 r1 r2 r3 r4 r5
    clear HD2 HT2 HR2 HB2 h3 h4
    generalize hc : decide (sa.q < sb.q) = C at *
    rcases ob with _ | _
    · rcases oa with _ | _
      · have HE := Lib.hid (HSA.out (by simp))
        have HF := Lib.hid (hr.out.set false sa)
        have HBf := Lib.hid (below_set6 hB.out hB2w (.bool false) (.int .u64 sa.q) (.int .u64 sa.b) (.int .u64 sa.i) (.int .u64 sa.e) (.int .i64 sa.u))
        clear HSA HSB hc
        go_wp2_with fail
        clear r0 r1 r2 r3 r4 r5 rf
        generalize hwf : World.setCell _ _ _ = wf
        rw [hwf] at HF HBf
        obtain ⟨⟨r0, r1, r2, r3, r4, r5⟩, rf⟩ := HF.out
        exact bodyPost_ret (v := .agg #[.bool false, .int .u64 sa.q, .int .u64 sa.b, .int .u64 sa.i, .int .u64 sa.e, .int .i64 sa.u]) (by simp [results, Tryd.results26, go_sem, r0, r1, r2, r3, r4, r5]) rfl ⟨by rw [HE.out.1, HE.out.2], HBf.out⟩
      · have HE := Lib.hid (HSA.out (by simp))
        have HF := Lib.hid (hr.out.set true sa)
        have HBf := Lib.hid (below_set6 hB.out hB2w (.bool true) (.int .u64 sa.q) (.int .u64 sa.b) (.int .u64 sa.i) (.int .u64 sa.e) (.int .i64 sa.u))
        clear HSA HSB hc
        go_wp2_with fail
        clear r0 r1 r2 r3 r4 r5 rf
        generalize hwf : World.setCell _ _ _ = wf
        rw [hwf] at HF HBf
        obtain ⟨⟨r0, r1, r2, r3, r4, r5⟩, rf⟩ := HF.out
        exact bodyPost_ret (v := .agg #[.bool true, .int .u64 sa.q, .int .u64 sa.b, .int .u64 sa.i, .int .u64 sa.e, .int .i64 sa.u]) (by simp [results, Tryd.results26, go_sem, r0, r1, r2, r3, r4, r5]) rfl ⟨by rw [HE.out.1, HE.out.2], HBf.out⟩
    · rcases oa with _ | _
      · have HE := Lib.hid (HSB.out (by simp))
        have HF := Lib.hid (hr.out.set true sb)
        have HBf := Lib.hid (below_set6 hB.out hB2w (.bool true) (.int .u64 sb.q) (.int .u64 sb.b) (.int .u64 sb.i) (.int .u64 sb.e) (.int .i64 sb.u))
        clear HSA HSB hc
        go_wp2_with fail
        clear r0 r1 r2 r3 r4 r5 rf
        generalize hwf : World.setCell _ _ _ = wf
        rw [hwf] at HF HBf
        obtain ⟨⟨r0, r1, r2, r3, r4, r5⟩, rf⟩ := HF.out
        exact bodyPost_ret (v := .agg #[.bool true, .int .u64 sb.q, .int .u64 sb.b, .int .u64 sb.i, .int .u64 sb.e, .int .i64 sb.u]) (by simp [results, Tryd.results26, go_sem, r0, r1, r2, r3, r4, r5]) rfl ⟨by rw [HE.out.1, HE.out.2], HBf.out⟩
      · rcases C with _ | _
        · have HE := Lib.hid (HSA.out (by simp))
          have HF := Lib.hid (hr.out.set true sa)
          have HBf := Lib.hid (below_set6 hB.out hB2w (.bool true) (.int .u64 sa.q) (.int .u64 sa.b) (.int .u64 sa.i) (.int .u64 sa.e) (.int .i64 sa.u))
          clear HSA HSB
          go_wp2_with fail
          clear r0 r1 r2 r3 r4 r5 rf
          generalize hwf : World.setCell _ _ _ = wf
          rw [hwf] at HF HBf
          obtain ⟨⟨r0, r1, r2, r3, r4, r5⟩, rf⟩ := HF.out
          exact bodyPost_ret (v := .agg #[.bool true, .int .u64 sa.q, .int .u64 sa.b, .int .u64 sa.i, .int .u64 sa.e, .int .i64 sa.u]) (by simp [results, Tryd.results26, go_sem, r0, r1, r2, r3, r4, r5]) rfl ⟨by rw [HE.out.1, HE.out.2], HBf.out⟩
        · have HE := Lib.hid (HSB.out (by simp))
          have HF := Lib.hid (hr.out.set true sb)
          have HBf := Lib.hid (below_set6 hB.out hB2w (.bool true) (.int .u64 sb.q) (.int .u64 sb.b) (.int .u64 sb.i) (.int .u64 sb.e) (.int .i64 sb.u))
          clear HSA HSB
          go_wp2_with fail
          clear r0 r1 r2 r3 r4 r5 rf
          generalize hwf : World.setCell _ _ _ = wf
          rw [hwf] at HF HBf
          obtain ⟨⟨r0, r1, r2, r3, r4, r5⟩, rf⟩ := HF.out
          exact bodyPost_ret (v := .agg #[.bool true, .int .u64 sb.q, .int .u64 sb.b, .int .u64 sb.i, .int .u64 sb.e, .int .i64 sb.u]) (by simp [results, Tryd.results26, go_sem, r0, r1, r2, r3, r4, r5]) rfl ⟨by rw [HE.out.1, HE.out.2], HBf.out⟩
end Go.Proofs.YtlpnhpnigljlnaaDoor
