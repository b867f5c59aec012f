/-
  THE LAW KnowLattice: of any two just one beats the other one, or they are the same; which one goes on from one to the next; Join hangs on no order, on nothing twice, and on no brackets.
  For any three.
-/
import Derived.Test.YtcichjphfdepmaaLaw
namespace Go.Proofs.Ytcichjphfdepmaa.lawLattice
open Go.Sort Go.ChangeShapes Go.WideShapes Go.ChangeAt Go.RowKit Go.Joins Go.Proofs.Ytcichjphfdepmaa.Pure

set_option maxRecDepth 100000 in
set_option maxHeartbeats 4000000 in
theorem wayBad (ai az bi bz ci cz : Int) (w : World) (HCK : Hid (∀ (W : World) (g : Nat), Lst W (some ⟨g, 0, none⟩) [⟨ai, az⟩, ⟨bi, bz⟩, ⟨ci, cz⟩] → Calls Try.prog 14 #[.slice (some ⟨g, 0, none⟩) 3 3] W fun e w' => e = .returned (.int .i64 1) ∧ Below W.heap.size W w')) :
    Calls Try.prog 5 #[.agg #[.int .u64 ai, .int .i64 az], .agg #[.int .u64 bi, .int .i64 bz], .agg #[.int .u64 ci, .int .i64 cz]] w fun e w' => e = .returned (.bool true) ∧ Below w.heap.size w w' := by
  go_enter Try.func5, Try.ntmps5
  go_upto_region 1 with (fail)
  have HB_0 : Hid (Below w.heap.size w (((w.alloc (.cells #[.int .u64 ai, .int .i64 az] 24)).alloc (.cells #[.int .u64 bi, .int .i64 bz] 24)).alloc (.cells #[.int .u64 ci, .int .i64 cz] 24))) := Lib.hid ((((Below.refl _ _).alloc (Nat.le_refl _) _).alloc (by simp) _).alloc (by simp; omega) _)
  have Ba_0 : Hid (Vr (((w.alloc (.cells #[.int .u64 ai, .int .i64 az] 24)).alloc (.cells #[.int .u64 bi, .int .i64 bz] 24)).alloc (.cells #[.int .u64 ci, .int .i64 cz] 24)) w.heap.size ⟨ai, az⟩) := Lib.hid (((Vr.new w ⟨ai, az⟩ _).alloc _).alloc _)
  have Bb_0 : Hid (Vr (((w.alloc (.cells #[.int .u64 ai, .int .i64 az] 24)).alloc (.cells #[.int .u64 bi, .int .i64 bz] 24)).alloc (.cells #[.int .u64 ci, .int .i64 cz] 24)) (w.heap.size + 1) ⟨bi, bz⟩) := Lib.hid ((Vr.at_ (by simp) ⟨bi, bz⟩ _).alloc _)
  have Bc_0 : Hid (Vr (((w.alloc (.cells #[.int .u64 ai, .int .i64 az] 24)).alloc (.cells #[.int .u64 bi, .int .i64 bz] 24)).alloc (.cells #[.int .u64 ci, .int .i64 cz] 24)) (w.heap.size + 2) ⟨ci, cz⟩) := Lib.hid (Vr.at_ (by simp) ⟨ci, cz⟩ _)
  generalize ((w.alloc (.cells #[.int .u64 ai, .int .i64 az] 24)).alloc (.cells #[.int .u64 bi, .int .i64 bz] 24)).alloc (.cells #[.int .u64 ci, .int .i64 cz] 24) = w0 at *
  have hz0 : w.heap.size + 2 < w0.heap.size := Bc_0.out.lt
  obtain ⟨⟨a0, a1⟩, _⟩ := Ba_0.out
  obtain ⟨⟨b0, b1⟩, _⟩ := Bb_0.out
  obtain ⟨⟨c0, c1⟩, _⟩ := Bc_0.out
  simp only at a0 a1 b0 b1 c0 c1
  go_wp2_with fail
  refine (HCK.out _ _ (Lst.three w0 ⟨ai, az⟩ ⟨bi, bz⟩ ⟨ci, cz⟩ _)).mono ?_
  rintro e w1 ⟨rfl, hb1⟩
  have hb1' : Below w0.heap.size w0 w1 := ((Below.refl _ _).alloc (Nat.le_refl _) _).trans (hb1.mono (by simp))
  clear hb1 a0 a1 b0 b1 c0 c1
  have HB_1 : Hid (Below w.heap.size w w1) := Lib.hid (HB_0.out.trans (hb1'.mono HB_0.out.size))
  have Ba_1 := Lib.hid (Ba_0.out.on hb1')
  have Bb_1 := Lib.hid (Bb_0.out.on hb1')
  have Bc_1 := Lib.hid (Bc_0.out.on hb1')
  clear HB_0 Ba_0 Bb_0 Bc_0 hb1'
  go_wp2_with fail
  refine (awake_any _).mono ?_
  rintro e wE ⟨rfl, hbE⟩
  have HE : Hid (Below w.heap.size w wE) := Lib.hid (HB_1.out.trans (hbE.mono HB_1.out.size))
  clear hbE
  go_wp2_with fail
  go_ret
  exact ⟨rfl, HE.out⟩

set_option maxRecDepth 100000 in
set_option maxHeartbeats 4000000 in
theorem wayOk (ai az bi bz ci cz : Int) (p r t : Kn) (x y u v : Bool) (w : World) (HCK : Hid (∀ (W : World) (g : Nat), Lst W (some ⟨g, 0, none⟩) [⟨ai, az⟩, ⟨bi, bz⟩, ⟨ci, cz⟩] → Calls Try.prog 14 #[.slice (some ⟨g, 0, none⟩) 3 3] W fun e w' => e = .returned (.int .i64 0) ∧ Below W.heap.size W w'))
    (HXY : Hid (∀ W : World, Calls Try.prog 12 #[.agg #[.int .u64 ai, .int .i64 az], .agg #[.int .u64 bi, .int .i64 bz]] W fun e w' => e = .returned (.bool x) ∧ Below W.heap.size W w'))
    (HYX : Hid (∀ W : World, Calls Try.prog 12 #[.agg #[.int .u64 bi, .int .i64 bz], .agg #[.int .u64 ai, .int .i64 az]] W fun e w' => e = .returned (.bool y) ∧ Below W.heap.size W w'))
    (HBC : Hid (∀ W : World, Calls Try.prog 12 #[.agg #[.int .u64 bi, .int .i64 bz], .agg #[.int .u64 ci, .int .i64 cz]] W fun e w' => e = .returned (.bool u) ∧ Below W.heap.size W w'))
    (HAC : Hid (∀ W : World, Calls Try.prog 12 #[.agg #[.int .u64 ai, .int .i64 az], .agg #[.int .u64 ci, .int .i64 cz]] W fun e w' => e = .returned (.bool v) ∧ Below W.heap.size W w'))
    (HAP : Hid (∀ W : World, Calls Try.prog 12 #[.agg #[.int .u64 ai, .int .i64 az], .agg #[.int .u64 p.i, .int .i64 p.s]] W fun e w' => e = .returned (.bool false) ∧ Below W.heap.size W w'))
    (HBP : Hid (∀ W : World, Calls Try.prog 12 #[.agg #[.int .u64 bi, .int .i64 bz], .agg #[.int .u64 p.i, .int .i64 p.s]] W fun e w' => e = .returned (.bool false) ∧ Below W.heap.size W w'))
    (HJp : Hid (∀ (W : World) (g : Nat), Lst W (some ⟨g, 0, none⟩) [⟨ai, az⟩, ⟨bi, bz⟩] → Calls Try.prog 18 #[.slice (some ⟨g, 0, none⟩) 2 2] W fun e w' => e = .returned (.tuple #[.agg #[.int .u64 p.i, .int .i64 p.s], .int .i64 0]) ∧ Below W.heap.size W w'))
    (HJq : Hid (∀ (W : World) (g : Nat), Lst W (some ⟨g, 0, none⟩) [⟨bi, bz⟩, ⟨ai, az⟩, ⟨ai, az⟩] → Calls Try.prog 18 #[.slice (some ⟨g, 0, none⟩) 3 3] W fun e w' => e = .returned (.tuple #[.agg #[.int .u64 p.i, .int .i64 p.s], .int .i64 0]) ∧ Below W.heap.size W w'))
    (HJs : Hid (∀ (W : World) (g : Nat), Lst W (some ⟨g, 0, none⟩) [p, ⟨ci, cz⟩] → Calls Try.prog 18 #[.slice (some ⟨g, 0, none⟩) 2 2] W fun e w' => e = .returned (.tuple #[.agg #[.int .u64 t.i, .int .i64 t.s], .int .i64 0]) ∧ Below W.heap.size W w'))
    (HJr : Hid (∀ (W : World) (g : Nat), Lst W (some ⟨g, 0, none⟩) [⟨bi, bz⟩, ⟨ci, cz⟩] → Calls Try.prog 18 #[.slice (some ⟨g, 0, none⟩) 2 2] W fun e w' => e = .returned (.tuple #[.agg #[.int .u64 r.i, .int .i64 r.s], .int .i64 0]) ∧ Below W.heap.size W w'))
    (HJt : Hid (∀ (W : World) (g : Nat), Lst W (some ⟨g, 0, none⟩) [⟨ai, az⟩, r] → Calls Try.prog 18 #[.slice (some ⟨g, 0, none⟩) 2 2] W fun e w' => e = .returned (.tuple #[.agg #[.int .u64 t.i, .int .i64 t.s], .int .i64 0]) ∧ Below W.heap.size W w'))
    (hxy : x = true ∧ y = false ∧ ¬(ai = bi ∧ az = bz) ∨ x = false ∧ y = true ∧ ¬(ai = bi ∧ az = bz) ∨ x = false ∧ y = false ∧ ai = bi ∧ az = bz) (huv : x = true → u = true → v = true) (hp : p = ⟨ai, az⟩ ∨ p = ⟨bi, bz⟩) :
    Calls Try.prog 5 #[.agg #[.int .u64 ai, .int .i64 az], .agg #[.int .u64 bi, .int .i64 bz], .agg #[.int .u64 ci, .int .i64 cz]] w fun e w' => e = .returned (.bool true) ∧ Below w.heap.size w w' := by
  have HXU := Lib.hid hxy
  have HUV := Lib.hid huv
  have HP := Lib.hid hp
  clear hxy huv hp
  go_enter Try.func5, Try.ntmps5
  go_upto_region 1 with (fail)
  have HB_0 : Hid (Below w.heap.size w (((w.alloc (.cells #[.int .u64 ai, .int .i64 az] 24)).alloc (.cells #[.int .u64 bi, .int .i64 bz] 24)).alloc (.cells #[.int .u64 ci, .int .i64 cz] 24))) := Lib.hid ((((Below.refl _ _).alloc (Nat.le_refl _) _).alloc (by simp) _).alloc (by simp; omega) _)
  have Ba_0 : Hid (Vr (((w.alloc (.cells #[.int .u64 ai, .int .i64 az] 24)).alloc (.cells #[.int .u64 bi, .int .i64 bz] 24)).alloc (.cells #[.int .u64 ci, .int .i64 cz] 24)) w.heap.size ⟨ai, az⟩) := Lib.hid (((Vr.new w ⟨ai, az⟩ _).alloc _).alloc _)
  have Bb_0 : Hid (Vr (((w.alloc (.cells #[.int .u64 ai, .int .i64 az] 24)).alloc (.cells #[.int .u64 bi, .int .i64 bz] 24)).alloc (.cells #[.int .u64 ci, .int .i64 cz] 24)) (w.heap.size + 1) ⟨bi, bz⟩) := Lib.hid ((Vr.at_ (by simp) ⟨bi, bz⟩ _).alloc _)
  have Bc_0 : Hid (Vr (((w.alloc (.cells #[.int .u64 ai, .int .i64 az] 24)).alloc (.cells #[.int .u64 bi, .int .i64 bz] 24)).alloc (.cells #[.int .u64 ci, .int .i64 cz] 24)) (w.heap.size + 2) ⟨ci, cz⟩) := Lib.hid (Vr.at_ (by simp) ⟨ci, cz⟩ _)
  generalize ((w.alloc (.cells #[.int .u64 ai, .int .i64 az] 24)).alloc (.cells #[.int .u64 bi, .int .i64 bz] 24)).alloc (.cells #[.int .u64 ci, .int .i64 cz] 24) = w0 at *
  have hz0 : w.heap.size + 2 < w0.heap.size := Bc_0.out.lt
  obtain ⟨⟨a0, a1⟩, _⟩ := Ba_0.out
  obtain ⟨⟨b0, b1⟩, _⟩ := Bb_0.out
  obtain ⟨⟨c0, c1⟩, _⟩ := Bc_0.out
  simp only at a0 a1 b0 b1 c0 c1
  go_wp2_with fail
  refine (HCK.out _ _ (Lst.three w0 ⟨ai, az⟩ ⟨bi, bz⟩ ⟨ci, cz⟩ _)).mono ?_
  rintro e w1 ⟨rfl, hb1⟩
  have hb1' : Below w0.heap.size w0 w1 := ((Below.refl _ _).alloc (Nat.le_refl _) _).trans (hb1.mono (by simp))
  clear hb1 a0 a1 b0 b1 c0 c1
  have HB_1 : Hid (Below w.heap.size w w1) := Lib.hid (HB_0.out.trans (hb1'.mono HB_0.out.size))
  have Ba_1 := Lib.hid (Ba_0.out.on hb1')
  have Bb_1 := Lib.hid (Bb_0.out.on hb1')
  have Bc_1 := Lib.hid (Bc_0.out.on hb1')
  clear HB_0 Ba_0 Bb_0 Bc_0 hb1'
  obtain ⟨⟨a0, a1⟩, _⟩ := Ba_1.out
  obtain ⟨⟨b0, b1⟩, _⟩ := Bb_1.out
  simp only at a0 a1 b0 b1
  have A0 := fun d os => cell_regrown a0 d os
  have A1 := fun d os => cell_regrown a1 d os
  have C0 := fun d os => cell_regrown b0 d os
  have C1 := fun d os => cell_regrown b1 d os
  go_upto_region 3 with (fail)
  refine q_enter (by kernel_rfl) (by kernel_rfl) ?_
  iterate 8 (refine q_step ?_; intro K hK; go_simp; first | (refine hK _ ?_; clear hK K) | (refine ⟨_, fun p => Calls.regrown_of (by with_reducible exact HXY.out _), hK _ ?_⟩; clear hK K) | (refine ⟨_, fun p => Calls.regrown_of (by with_reducible exact HYX.out _), hK _ ?_⟩; clear hK K))
  refine q_nil ?_
  intro wz hbz
  clear A0 A1 C0 C1
  clear a0 a1 b0 b1
  have HB_2 : Hid (Below w.heap.size w wz) := Lib.hid (HB_1.out.trans (hbz.mono HB_1.out.size))
  have Ba_2 := Lib.hid (Ba_1.out.on hbz)
  have Bb_2 := Lib.hid (Bb_1.out.on hbz)
  have Bc_2 := Lib.hid (Bc_1.out.on hbz)
  clear HB_1 Ba_1 Bb_1 Bc_1 hbz
  go_upto_region 4 with (fail)
  go_cut [61] (fun s wx => s = .bool false ∧ Hid (Below wz.heap.size wz wx))
  case first =>
    obtain ⟨⟨a0, a1⟩, _⟩ := Ba_2.out
    obtain ⟨⟨b0, b1⟩, _⟩ := Bb_2.out
    obtain ⟨⟨c0, c1⟩, _⟩ := Bc_2.out
    simp only at a0 a1 b0 b1 c0 c1
    rcases HXU.out with ⟨rfl, rfl, hne⟩ | ⟨rfl, rfl, hne⟩ | ⟨rfl, rfl, rfl, rfl⟩
    · by_cases hi : ai = bi
      · have hs : ¬az = bz := fun h => hne ⟨hi, h⟩
        clear hne
        subst hi
        rcases u with _ | _
        · skip
          go_wp2_with fail
          refine (HBC.out _).mono ?_
          rintro e w2 ⟨rfl, hb2⟩
          have hz2 := hb2.size
          have Ba2 := Lib.hid (Ba_2.out.on hb2)
          have Bc2 := Lib.hid (Bc_2.out.on hb2)
          have HB2 := Lib.hid hb2
          clear hb2 a0 a1 b0 b1 c0 c1
          go_wp2_with fail
          go_meet
          exact ⟨rfl, HB2⟩
        · obtain rfl := HUV.out rfl rfl
          go_wp2_with fail
          refine (HBC.out _).mono ?_
          rintro e w2 ⟨rfl, hb2⟩
          have hz2 := hb2.size
          have Ba2 := Lib.hid (Ba_2.out.on hb2)
          have Bc2 := Lib.hid (Bc_2.out.on hb2)
          have HB2 := Lib.hid hb2
          clear hb2 a0 a1 b0 b1 c0 c1
          obtain ⟨⟨a0, a1⟩, _⟩ := Ba2.out
          obtain ⟨⟨c0, c1⟩, _⟩ := Bc2.out
          simp only at a0 a1 c0 c1
          go_wp2_with fail
          refine (HAC.out _).mono ?_
          rintro e w3 ⟨rfl, hb3⟩
          have HB3 : Hid (Below wz.heap.size wz w3) := Lib.hid (HB2.out.trans (hb3.mono hz2))
          clear hb3
          go_wp2_with fail
          go_meet
          exact ⟨rfl, HB3⟩
      · clear hne
        rcases u with _ | _
        · skip
          go_wp2_with fail
          refine (HBC.out _).mono ?_
          rintro e w2 ⟨rfl, hb2⟩
          have hz2 := hb2.size
          have Ba2 := Lib.hid (Ba_2.out.on hb2)
          have Bc2 := Lib.hid (Bc_2.out.on hb2)
          have HB2 := Lib.hid hb2
          clear hb2 a0 a1 b0 b1 c0 c1
          go_wp2_with fail
          go_meet
          exact ⟨rfl, HB2⟩
        · obtain rfl := HUV.out rfl rfl
          go_wp2_with fail
          refine (HBC.out _).mono ?_
          rintro e w2 ⟨rfl, hb2⟩
          have hz2 := hb2.size
          have Ba2 := Lib.hid (Ba_2.out.on hb2)
          have Bc2 := Lib.hid (Bc_2.out.on hb2)
          have HB2 := Lib.hid hb2
          clear hb2 a0 a1 b0 b1 c0 c1
          obtain ⟨⟨a0, a1⟩, _⟩ := Ba2.out
          obtain ⟨⟨c0, c1⟩, _⟩ := Bc2.out
          simp only at a0 a1 c0 c1
          go_wp2_with fail
          refine (HAC.out _).mono ?_
          rintro e w3 ⟨rfl, hb3⟩
          have HB3 : Hid (Below wz.heap.size wz w3) := Lib.hid (HB2.out.trans (hb3.mono hz2))
          clear hb3
          go_wp2_with fail
          go_meet
          exact ⟨rfl, HB3⟩
    · by_cases hi : ai = bi
      · have hs : ¬az = bz := fun h => hne ⟨hi, h⟩
        clear hne
        subst hi
        go_wp2_with fail
        go_meet
        exact ⟨rfl, Lib.hid (Below.refl _ _)⟩
      · clear hne
        go_wp2_with fail
        go_meet
        exact ⟨rfl, Lib.hid (Below.refl _ _)⟩
    · go_wp2_with fail
      go_meet
      exact ⟨rfl, Lib.hid (Below.refl _ _)⟩
  case rest =>
  obtain ⟨rfl, HZ⟩ := hcut
  have hbz2 := HZ.out
  clear HZ HXY HYX HBC HAC HXU HUV
  have HB_3 : Hid (Below w.heap.size w _) := Lib.hid (HB_2.out.trans (hbz2.mono HB_2.out.size))
  have Ba_3 := Lib.hid (Ba_2.out.on hbz2)
  have Bb_3 := Lib.hid (Bb_2.out.on hbz2)
  have Bc_3 := Lib.hid (Bc_2.out.on hbz2)
  clear HB_2 Ba_2 Bb_2 Bc_2 hbz2
  obtain ⟨⟨a0, a1⟩, _⟩ := Ba_3.out
  obtain ⟨⟨b0, b1⟩, _⟩ := Bb_3.out
  simp only at a0 a1 b0 b1
  go_wp2_with fail
  refine (HJp.out _ _ (Lst.two _ ⟨ai, az⟩ ⟨bi, bz⟩ _)).mono ?_
  rintro e wj ⟨rfl, hbj⟩
  have hbj' := Below.trans ((Below.refl _ _).alloc (Nat.le_refl _) _) (hbj.mono (by simp))
  clear hbj
  clear a0 a1 b0 b1
  have HB_4 : Hid (Below w.heap.size w wj) := Lib.hid (HB_3.out.trans (hbj'.mono HB_3.out.size))
  have Ba_4 := Lib.hid (Ba_3.out.on hbj')
  have Bb_4 := Lib.hid (Bb_3.out.on hbj')
  have Bc_4 := Lib.hid (Bc_3.out.on hbj')
  clear HB_3 Ba_3 Bb_3 Bc_3 hbj'
  go_upto_region 7 with (fail)
  have Bp_5 := Lib.hid (Vr.new wj p 24)
  have Ba_5 := Lib.hid (Ba_4.out.alloc (.cells #[.int .u64 p.i, .int .i64 p.s] 24))
  have Bb_5 := Lib.hid (Bb_4.out.alloc (.cells #[.int .u64 p.i, .int .i64 p.s] 24))
  have Bc_5 := Lib.hid (Bc_4.out.alloc (.cells #[.int .u64 p.i, .int .i64 p.s] 24))
  have HB_5 : Hid (Below w.heap.size w (wj.alloc (.cells #[.int .u64 p.i, .int .i64 p.s] 24))) := Lib.hid (HB_4.out.alloc HB_4.out.size _)
  have hg_gp : w.heap.size ≤ wj.heap.size := HB_4.out.size
  have hl_gp_a : w.heap.size < wj.heap.size := Ba_4.out.lt
  have hl_gp_b : (w.heap.size + 1) < wj.heap.size := Bb_4.out.lt
  have hl_gp_c : (w.heap.size + 2) < wj.heap.size := Bc_4.out.lt
  clear HB_4 Ba_4 Bb_4 Bc_4
  generalize wj.alloc (.cells #[.int .u64 p.i, .int .i64 p.s] 24) = v1 at *
  generalize wj.heap.size = gp at *
  obtain ⟨⟨a0, a1⟩, _⟩ := Ba_5.out
  obtain ⟨⟨b0, b1⟩, _⟩ := Bb_5.out
  simp only at a0 a1 b0 b1
  go_wp2_with fail
  refine (HJq.out _ _ (Lst.three _ ⟨bi, bz⟩ ⟨ai, az⟩ ⟨ai, az⟩ _)).mono ?_
  rintro e wj ⟨rfl, hbj⟩
  have hbj' := Below.trans ((Below.refl _ _).alloc (Nat.le_refl _) _) (hbj.mono (by simp))
  clear hbj
  clear a0 a1 b0 b1
  have HB_6 : Hid (Below w.heap.size w wj) := Lib.hid (HB_5.out.trans (hbj'.mono HB_5.out.size))
  have Ba_6 := Lib.hid (Ba_5.out.on hbj')
  have Bb_6 := Lib.hid (Bb_5.out.on hbj')
  have Bc_6 := Lib.hid (Bc_5.out.on hbj')
  have Bp_6 := Lib.hid (Bp_5.out.on hbj')
  clear HB_5 Ba_5 Bb_5 Bc_5 Bp_5 hbj'
  go_upto_region 8 with (fail)
  have Bq_7 := Lib.hid (Vr.new wj p 24)
  have Ba_7 := Lib.hid (Ba_6.out.alloc (.cells #[.int .u64 p.i, .int .i64 p.s] 24))
  have Bb_7 := Lib.hid (Bb_6.out.alloc (.cells #[.int .u64 p.i, .int .i64 p.s] 24))
  have Bc_7 := Lib.hid (Bc_6.out.alloc (.cells #[.int .u64 p.i, .int .i64 p.s] 24))
  have Bp_7 := Lib.hid (Bp_6.out.alloc (.cells #[.int .u64 p.i, .int .i64 p.s] 24))
  have HB_7 : Hid (Below w.heap.size w (wj.alloc (.cells #[.int .u64 p.i, .int .i64 p.s] 24))) := Lib.hid (HB_6.out.alloc HB_6.out.size _)
  have hg_gq : w.heap.size ≤ wj.heap.size := HB_6.out.size
  have hl_gq_a : w.heap.size < wj.heap.size := Ba_6.out.lt
  have hl_gq_b : (w.heap.size + 1) < wj.heap.size := Bb_6.out.lt
  have hl_gq_c : (w.heap.size + 2) < wj.heap.size := Bc_6.out.lt
  have hl_gq_p : gp < wj.heap.size := Bp_6.out.lt
  clear HB_6 Ba_6 Bb_6 Bc_6 Bp_6
  generalize wj.alloc (.cells #[.int .u64 p.i, .int .i64 p.s] 24) = v2 at *
  generalize wj.heap.size = gq at *
  obtain ⟨⟨c0, c1⟩, _⟩ := Bc_7.out
  obtain ⟨⟨p0, p1⟩, _⟩ := Bp_7.out
  simp only at c0 c1
  go_wp2_with fail
  refine (HJs.out _ _ (Lst.two _ p ⟨ci, cz⟩ _)).mono ?_
  rintro e wj ⟨rfl, hbj⟩
  have hbj' := Below.trans ((Below.refl _ _).alloc (Nat.le_refl _) _) (hbj.mono (by simp))
  clear hbj
  clear c0 c1 p0 p1
  have HB_8 : Hid (Below w.heap.size w wj) := Lib.hid (HB_7.out.trans (hbj'.mono HB_7.out.size))
  have Ba_8 := Lib.hid (Ba_7.out.on hbj')
  have Bb_8 := Lib.hid (Bb_7.out.on hbj')
  have Bc_8 := Lib.hid (Bc_7.out.on hbj')
  have Bp_8 := Lib.hid (Bp_7.out.on hbj')
  have Bq_8 := Lib.hid (Bq_7.out.on hbj')
  clear HB_7 Ba_7 Bb_7 Bc_7 Bp_7 Bq_7 hbj'
  go_upto_region 9 with (fail)
  have Bs_9 := Lib.hid (Vr.new wj t 24)
  have Ba_9 := Lib.hid (Ba_8.out.alloc (.cells #[.int .u64 t.i, .int .i64 t.s] 24))
  have Bb_9 := Lib.hid (Bb_8.out.alloc (.cells #[.int .u64 t.i, .int .i64 t.s] 24))
  have Bc_9 := Lib.hid (Bc_8.out.alloc (.cells #[.int .u64 t.i, .int .i64 t.s] 24))
  have Bp_9 := Lib.hid (Bp_8.out.alloc (.cells #[.int .u64 t.i, .int .i64 t.s] 24))
  have Bq_9 := Lib.hid (Bq_8.out.alloc (.cells #[.int .u64 t.i, .int .i64 t.s] 24))
  have HB_9 : Hid (Below w.heap.size w (wj.alloc (.cells #[.int .u64 t.i, .int .i64 t.s] 24))) := Lib.hid (HB_8.out.alloc HB_8.out.size _)
  have hg_gs : w.heap.size ≤ wj.heap.size := HB_8.out.size
  have hl_gs_a : w.heap.size < wj.heap.size := Ba_8.out.lt
  have hl_gs_b : (w.heap.size + 1) < wj.heap.size := Bb_8.out.lt
  have hl_gs_c : (w.heap.size + 2) < wj.heap.size := Bc_8.out.lt
  have hl_gs_p : gp < wj.heap.size := Bp_8.out.lt
  have hl_gs_q : gq < wj.heap.size := Bq_8.out.lt
  clear HB_8 Ba_8 Bb_8 Bc_8 Bp_8 Bq_8
  generalize wj.alloc (.cells #[.int .u64 t.i, .int .i64 t.s] 24) = v3 at *
  generalize wj.heap.size = gs at *
  obtain ⟨⟨b0, b1⟩, _⟩ := Bb_9.out
  obtain ⟨⟨c0, c1⟩, _⟩ := Bc_9.out
  simp only at b0 b1 c0 c1
  go_wp2_with fail
  refine (HJr.out _ _ (Lst.two _ ⟨bi, bz⟩ ⟨ci, cz⟩ _)).mono ?_
  rintro e wj ⟨rfl, hbj⟩
  have hbj' := Below.trans ((Below.refl _ _).alloc (Nat.le_refl _) _) (hbj.mono (by simp))
  clear hbj
  clear b0 b1 c0 c1
  have HB_10 : Hid (Below w.heap.size w wj) := Lib.hid (HB_9.out.trans (hbj'.mono HB_9.out.size))
  have Ba_10 := Lib.hid (Ba_9.out.on hbj')
  have Bb_10 := Lib.hid (Bb_9.out.on hbj')
  have Bc_10 := Lib.hid (Bc_9.out.on hbj')
  have Bp_10 := Lib.hid (Bp_9.out.on hbj')
  have Bq_10 := Lib.hid (Bq_9.out.on hbj')
  have Bs_10 := Lib.hid (Bs_9.out.on hbj')
  clear HB_9 Ba_9 Bb_9 Bc_9 Bp_9 Bq_9 Bs_9 hbj'
  go_upto_region 10 with (fail)
  have Br_11 := Lib.hid (Vr.new wj r 24)
  have Ba_11 := Lib.hid (Ba_10.out.alloc (.cells #[.int .u64 r.i, .int .i64 r.s] 24))
  have Bb_11 := Lib.hid (Bb_10.out.alloc (.cells #[.int .u64 r.i, .int .i64 r.s] 24))
  have Bc_11 := Lib.hid (Bc_10.out.alloc (.cells #[.int .u64 r.i, .int .i64 r.s] 24))
  have Bp_11 := Lib.hid (Bp_10.out.alloc (.cells #[.int .u64 r.i, .int .i64 r.s] 24))
  have Bq_11 := Lib.hid (Bq_10.out.alloc (.cells #[.int .u64 r.i, .int .i64 r.s] 24))
  have Bs_11 := Lib.hid (Bs_10.out.alloc (.cells #[.int .u64 r.i, .int .i64 r.s] 24))
  have HB_11 : Hid (Below w.heap.size w (wj.alloc (.cells #[.int .u64 r.i, .int .i64 r.s] 24))) := Lib.hid (HB_10.out.alloc HB_10.out.size _)
  have hg_gr : w.heap.size ≤ wj.heap.size := HB_10.out.size
  have hl_gr_a : w.heap.size < wj.heap.size := Ba_10.out.lt
  have hl_gr_b : (w.heap.size + 1) < wj.heap.size := Bb_10.out.lt
  have hl_gr_c : (w.heap.size + 2) < wj.heap.size := Bc_10.out.lt
  have hl_gr_p : gp < wj.heap.size := Bp_10.out.lt
  have hl_gr_q : gq < wj.heap.size := Bq_10.out.lt
  have hl_gr_s : gs < wj.heap.size := Bs_10.out.lt
  clear HB_10 Ba_10 Bb_10 Bc_10 Bp_10 Bq_10 Bs_10
  generalize wj.alloc (.cells #[.int .u64 r.i, .int .i64 r.s] 24) = v4 at *
  generalize wj.heap.size = gr at *
  obtain ⟨⟨a0, a1⟩, _⟩ := Ba_11.out
  obtain ⟨⟨r0, r1⟩, _⟩ := Br_11.out
  simp only at a0 a1
  go_wp2_with fail
  refine (HJt.out _ _ (Lst.two _ ⟨ai, az⟩ r _)).mono ?_
  rintro e wj ⟨rfl, hbj⟩
  have hbj' := Below.trans ((Below.refl _ _).alloc (Nat.le_refl _) _) (hbj.mono (by simp))
  clear hbj
  clear a0 a1 r0 r1
  have HB_12 : Hid (Below w.heap.size w wj) := Lib.hid (HB_11.out.trans (hbj'.mono HB_11.out.size))
  have Ba_12 := Lib.hid (Ba_11.out.on hbj')
  have Bb_12 := Lib.hid (Bb_11.out.on hbj')
  have Bc_12 := Lib.hid (Bc_11.out.on hbj')
  have Bp_12 := Lib.hid (Bp_11.out.on hbj')
  have Bq_12 := Lib.hid (Bq_11.out.on hbj')
  have Bs_12 := Lib.hid (Bs_11.out.on hbj')
  have Br_12 := Lib.hid (Br_11.out.on hbj')
  clear HB_11 Ba_11 Bb_11 Bc_11 Bp_11 Bq_11 Bs_11 Br_11 hbj'
  go_upto_region 11 with (fail)
  have Bt_13 := Lib.hid (Vr.new wj t 24)
  have Ba_13 := Lib.hid (Ba_12.out.alloc (.cells #[.int .u64 t.i, .int .i64 t.s] 24))
  have Bb_13 := Lib.hid (Bb_12.out.alloc (.cells #[.int .u64 t.i, .int .i64 t.s] 24))
  have Bc_13 := Lib.hid (Bc_12.out.alloc (.cells #[.int .u64 t.i, .int .i64 t.s] 24))
  have Bp_13 := Lib.hid (Bp_12.out.alloc (.cells #[.int .u64 t.i, .int .i64 t.s] 24))
  have Bq_13 := Lib.hid (Bq_12.out.alloc (.cells #[.int .u64 t.i, .int .i64 t.s] 24))
  have Bs_13 := Lib.hid (Bs_12.out.alloc (.cells #[.int .u64 t.i, .int .i64 t.s] 24))
  have Br_13 := Lib.hid (Br_12.out.alloc (.cells #[.int .u64 t.i, .int .i64 t.s] 24))
  have HB_13 : Hid (Below w.heap.size w (wj.alloc (.cells #[.int .u64 t.i, .int .i64 t.s] 24))) := Lib.hid (HB_12.out.alloc HB_12.out.size _)
  have hg_gt : w.heap.size ≤ wj.heap.size := HB_12.out.size
  have hl_gt_a : w.heap.size < wj.heap.size := Ba_12.out.lt
  have hl_gt_b : (w.heap.size + 1) < wj.heap.size := Bb_12.out.lt
  have hl_gt_c : (w.heap.size + 2) < wj.heap.size := Bc_12.out.lt
  have hl_gt_p : gp < wj.heap.size := Bp_12.out.lt
  have hl_gt_q : gq < wj.heap.size := Bq_12.out.lt
  have hl_gt_s : gs < wj.heap.size := Bs_12.out.lt
  have hl_gt_r : gr < wj.heap.size := Br_12.out.lt
  clear HB_12 Ba_12 Bb_12 Bc_12 Bp_12 Bq_12 Bs_12 Br_12
  generalize wj.alloc (.cells #[.int .u64 t.i, .int .i64 t.s] 24) = v5 at *
  generalize wj.heap.size = gt at *
  clear HJp HJq HJs HJr HJt
  obtain ⟨⟨p0, p1⟩, _⟩ := Bp_13.out
  obtain ⟨⟨q0, q1⟩, _⟩ := Bq_13.out
  obtain ⟨⟨s0, s1⟩, _⟩ := Bs_13.out
  obtain ⟨⟨t0, t1⟩, _⟩ := Bt_13.out
  obtain ⟨⟨a0, a1⟩, _⟩ := Ba_13.out
  simp only at a0 a1
  go_wp2_with fail
  refine (HAP.out _).mono ?_
  rintro e w8 ⟨rfl, hb8⟩
  clear p0 p1 q0 q1 s0 s1 t0 t1 a0 a1
  have HB_14 : Hid (Below w.heap.size w w8) := Lib.hid (HB_13.out.trans (hb8.mono HB_13.out.size))
  have Ba_14 := Lib.hid (Ba_13.out.on hb8)
  have Bb_14 := Lib.hid (Bb_13.out.on hb8)
  have Bc_14 := Lib.hid (Bc_13.out.on hb8)
  have Bp_14 := Lib.hid (Bp_13.out.on hb8)
  have Bq_14 := Lib.hid (Bq_13.out.on hb8)
  have Bs_14 := Lib.hid (Bs_13.out.on hb8)
  have Br_14 := Lib.hid (Br_13.out.on hb8)
  have Bt_14 := Lib.hid (Bt_13.out.on hb8)
  clear HB_13 Ba_13 Bb_13 Bc_13 Bp_13 Bq_13 Bs_13 Br_13 Bt_13 hb8
  obtain ⟨⟨p0, p1⟩, _⟩ := Bp_14.out
  obtain ⟨⟨b0, b1⟩, _⟩ := Bb_14.out
  simp only at b0 b1
  go_wp2_with fail
  refine (HBP.out _).mono ?_
  rintro e w9 ⟨rfl, hb9⟩
  clear p0 p1 b0 b1
  have HB_15 : Hid (Below w.heap.size w w9) := Lib.hid (HB_14.out.trans (hb9.mono HB_14.out.size))
  have Ba_15 := Lib.hid (Ba_14.out.on hb9)
  have Bb_15 := Lib.hid (Bb_14.out.on hb9)
  have Bc_15 := Lib.hid (Bc_14.out.on hb9)
  have Bp_15 := Lib.hid (Bp_14.out.on hb9)
  have Bq_15 := Lib.hid (Bq_14.out.on hb9)
  have Bs_15 := Lib.hid (Bs_14.out.on hb9)
  have Br_15 := Lib.hid (Br_14.out.on hb9)
  have Bt_15 := Lib.hid (Bt_14.out.on hb9)
  clear HB_14 Ba_14 Bb_14 Bc_14 Bp_14 Bq_14 Bs_14 Br_14 Bt_14 hb9
  obtain ⟨⟨p0, p1⟩, _⟩ := Bp_15.out
  obtain ⟨⟨a0, a1⟩, _⟩ := Ba_15.out
  obtain ⟨⟨b0, b1⟩, _⟩ := Bb_15.out
  simp only at a0 a1 b0 b1
  clear HAP HBP
  rcases HP.out with rfl | rfl
  · simp only at p0 p1
    go_wp2_with fail
    refine (awake_any _).mono ?_
    rintro e wE ⟨rfl, hbE⟩
    have HE : Hid (Below w.heap.size w wE) := Lib.hid (HB_15.out.trans (hbE.mono HB_15.out.size))
    clear hbE
    go_wp2_with fail
    go_ret
    exact ⟨rfl, HE.out⟩
  · simp only at p0 p1
    by_cases hi : bi = ai
    · subst hi
      by_cases hs : bz = az
      · subst hs
        go_wp2_with fail
        refine (awake_any _).mono ?_
        rintro e wE ⟨rfl, hbE⟩
        have HE : Hid (Below w.heap.size w wE) := Lib.hid (HB_15.out.trans (hbE.mono HB_15.out.size))
        clear hbE
        go_wp2_with fail
        go_ret
        exact ⟨rfl, HE.out⟩
      · skip
        go_wp2_with fail
        refine (awake_any _).mono ?_
        rintro e wE ⟨rfl, hbE⟩
        have HE : Hid (Below w.heap.size w wE) := Lib.hid (HB_15.out.trans (hbE.mono HB_15.out.size))
        clear hbE
        go_wp2_with fail
        go_ret
        exact ⟨rfl, HE.out⟩
    · skip
      go_wp2_with fail
      refine (awake_any _).mono ?_
      rintro e wE ⟨rfl, hbE⟩
      have HE : Hid (Below w.heap.size w wE) := Lib.hid (HB_15.out.trans (hbE.mono HB_15.out.size))
      clear hbE
      go_wp2_with fail
      go_ret
      exact ⟨rfl, HE.out⟩

theorem walk (a b c : Kn) (w : World) (fa : Fit a) (fb : Fit b) :
    Calls Try.prog 5 #[.agg #[.int .u64 a.i, .int .i64 a.s], .agg #[.int .u64 b.i, .int .i64 b.s], .agg #[.int .u64 c.i, .int .i64 c.s]] w fun e w' => e = .returned (.bool true) ∧ Below w.heap.size w w' := by
  rcases hv : mayL [a, b, c] with _ | _
  · exact wayBad a.i a.s b.i b.s c.i c.s w (Lib.hid fun W g h => check_any (some ⟨g, 0, none⟩) 3 [a, b, c] W (Nat.le_of_ble_eq_true rfl) h false hv)
  obtain ⟨ma, mb, mc⟩ : mayK a = true ∧ mayK b = true ∧ mayK c = true := by simpa [mayL] using hv
  have hp := stepK_either a b
  have mp : mayK (stepK a b) = true := stepK_may ma
  have fp : Fit (stepK a b) := stepK_fit fa fb
  have mr : mayK (stepK b c) = true := stepK_may mb
  have kp := stepK_key ma mb
  have eq1 : stepK (stepK b a) a = stepK a b := key_inj (stepK_may (stepK_may mb)) mp (by rw [stepK_key (stepK_may mb) ma, stepK_key mb ma, kp]; omega)
  have eq2 : stepK a (stepK b c) = stepK (stepK a b) c := key_inj (stepK_may ma) (stepK_may mp) (by rw [stepK_key ma mr, stepK_key mb mc, stepK_key mp mc, kp]; omega)
  have hq : ∀ (W : World) (g : Nat), Lst W (some ⟨g, 0, none⟩) [b, a, a] → _ := fun W g h => join3_any g b a a W mb ma ma fb h
  rw [eq1] at hq
  have ht : ∀ (W : World) (g : Nat), Lst W (some ⟨g, 0, none⟩) [a, stepK b c] → _ := fun W g h => join2_any g a (stepK b c) W ma mr fa h
  rw [eq2] at ht
  have bap : beatsB a (stepK a b) = false := by rw [beats_key ma mp, kp]; simp; omega
  have bbp : beatsB b (stepK a b) = false := by rw [beats_key mb mp, kp]; simp; omega
  have hap := fun W => beats_any a (stepK a b) W
  rw [bap] at hap
  have hbp := fun W => beats_any b (stepK a b) W
  rw [bbp] at hbp
  refine wayOk a.i a.s b.i b.s c.i c.s (stepK a b) (stepK b c) (stepK (stepK a b) c) (beatsB a b) (beatsB b a) (beatsB b c) (beatsB a c) w
    (Lib.hid fun W g h => check_any (some ⟨g, 0, none⟩) 3 [a, b, c] W (Nat.le_of_ble_eq_true rfl) h true hv)
    (Lib.hid fun W => beats_any a b W) (Lib.hid fun W => beats_any b a W) (Lib.hid fun W => beats_any b c W) (Lib.hid fun W => beats_any a c W)
    (Lib.hid hap) (Lib.hid hbp)
    (Lib.hid fun W g h => join2_any g a b W ma mb fa h) (Lib.hid hq) (Lib.hid fun W g h => join2_any g (stepK a b) c W mp mc fp h) (Lib.hid fun W g h => join2_any g b c W mb mc fb h) (Lib.hid ht) ?_ ?_ hp
  · rw [beats_key ma mb, beats_key mb ma]
    simp only [decide_eq_true_iff, decide_eq_false_iff_not]
    rcases Int.lt_trichotomy (key a) (key b) with h | h | h
    · exact .inr (.inl ⟨by omega, by omega, fun e => by unfold key at h; omega⟩)
    · have := key_inj ma mb h
      subst this
      exact .inr (.inr ⟨by omega, by omega, rfl, rfl⟩)
    · exact .inl ⟨by omega, by omega, fun e => by unfold key at h; omega⟩
  · rw [beats_iff ma mb, beats_iff mb mc, beats_iff ma mc]
    intro h1 h2
    omega

/-! ### the statement -/
theorem parOk : ∀ t ∈ (#[24, 24, 24] : Array TypeId).toList, Try.prog.readableRec t = true ∧ t < Try.prog.types.size := by
  have hall : ([24, 24, 24].all fun t => Try.prog.readableRec t && decide (t < Try.prog.types.size)) = true := by kernel_rfl
  intro t ht
  simpa using List.all_eq_true.1 hall t ht

/-- What the walk gives, for every argument. -/
theorem contract (H : Type) (enc : TypeId × Value → H) (W : World) (base : Nat) (args : Array Value) (ds gs : List (DataW H)) (before : List MemPlace)
    (hval : ∀ (j : Nat) t v, Try.f5.params[j]? = some t → args[j]? = some v → Value.okWide Try.prog W .any base t v)
    (hW : DataW.Whole enc Try.prog Try.f5.params.toList Rows.knowLatticeSpec.vars false W args.toList ds gs before) :
    Calls Try.prog 5 args W fun e W' => ∃ v, e = .returned v ∧ Rows.knowLatticeSpec.post enc Try.prog Try.f5 false true false false W args v W' := by
  have hW' := hW
  obtain ⟨p, q, hA0, hV, rfl, hfz, hnd⟩ := hW
  have hA : DataW.TrodAll enc Try.prog W 0 (fun _ => true) true Try.f5.params.toList args.toList ds p := hA0
  rw [Try.params5] at hA hval
  obtain ⟨v0, vs0, d0, ds0, p0, q0, hargs, rfl, rfl, h0, r0⟩ := trodAll_cons hA
  obtain ⟨v1, vs1, d1, ds1, p1, q1, rfl, rfl, rfl, h1, r1⟩ := trodAll_cons r0
  obtain ⟨v2, vs2, d2, ds2, p2, q2, rfl, rfl, rfl, h2, r2⟩ := trodAll_cons r1
  obtain ⟨rfl, rfl, rfl⟩ := trodAll_nil r2
  obtain rfl : args = #[v0, v1, v2] := by cases args; simp_all
  obtain ⟨rfl, rfl⟩ := trodVars_none hV
  obtain ⟨a, rfl, fa⟩ := open_kn (hval 0 24 v0 rfl rfl) h0
  obtain ⟨b, rfl, fb⟩ := open_kn (hval 1 24 v1 rfl rfl) h1
  obtain ⟨c, rfl, fc⟩ := open_kn (hval 2 24 v2 rfl rfl) h2
  clear hA0
  refine (walk a b c W fa fb).mono fun e W' ⟨he, hb⟩ => ?_
  subst he
  exact ⟨_, rfl, law_post rfl (by rw [Try.params5]; exact parOk) rfl hW' rfl rfl rfl hb⟩

set_option maxRecDepth 100000 in
theorem lifted (os : Os) (started : os.Started) (H : Type) (enc : TypeId × Value → H) :
    ReturnsInHanded {} Try.checked os 5 .any (Rows.knowLatticeSpec.pre6 enc Try.prog Try.f5 Rows.knowLatticeRow.domain false) (Rows.knowLatticeSpec.post enc Try.prog Try.f5 false true false false) := by
  refine returnsInHanded_of_change (C := Try.checked) own started (by kernel_rfl) Try.func5
    (ChangeSpec.witness6 (enc := enc) (C := Try.checked) false ⟨#[], #[.agg #[.int .u64 0, .int .i64 0], .agg #[.int .u64 0, .int .i64 0], .agg #[.int .u64 0, .int .i64 0]], []⟩ 8 (by kernel_rfl) (by kernel_rfl) (by kernel_rfl) (by kernel_rfl)) ?_
  intro W base args ds gs before hval hW _ _
  exact contract H enc W base args ds gs before hval hW

/-- THE STATEMENT. -/
theorem said : Rows.KnowLatticeSaid :=
  OpenClaim.holds_of_wide 5 Try.f5 rfl rfl rfl rfl rfl rfl rfl ⟨rfl, rfl, rfl, rfl, rfl⟩ rfl rfl rfl rfl rfl (by kernel_rfl) Try.func5 (by kernel_rfl)
    (of_decide_eq_true (by kernel_rfl)) (by unfold Func.isWrapper; first | (rw [if_pos (by decide +kernel)]; kernel_rfl) | (rw [if_neg (by decide +kernel)]; exact ⟨rfl, rfl⟩))
    (fun os started H enc _ => lifted os started H enc)
end Go.Proofs.Ytcichjphfdepmaa.lawLattice
