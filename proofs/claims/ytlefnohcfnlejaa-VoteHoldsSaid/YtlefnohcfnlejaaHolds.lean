/-
  VoteHolds: a term may be held for no longer than it lasts, for as long as the guard by its clocks is: the law returns true for every input.
-/
import Derived.Test.YtlefnohcfnlejaaVw
namespace Go.Proofs.Ytlefnohcfnlejaa.lawHolds
open Go.Sort Go.ChangeShapes Go.WideShapes Go.ChangeAt Go.RowKit Go.Joins Go.Proofs.Ytlefnohcfnlejaa.Pure

set_option maxRecDepth 100000 in
set_option maxHeartbeats 4000000 in
theorem walk (x : Tm) (m : Nat) (w : World) (_ : FitT x) (hm : (m : Int) ≤ 255) : Calls Try.prog 8 #[.agg #[.int .i64 x.t, .int .i64 x.d, .int .i64 x.r], .int .u8 m] w fun e w' => e = .returned (.bool true) ∧ Below w.heap.size w w' := by
  have HAW := Lib.hid (fun W => awake_any W)
  have HHO := Lib.hid (fun y W => hold_any y W)
  have HGD := Lib.hid (fun W => guard_any x W)
  have wm : IntKind.i64.wrap (m : Int) = (m : Int) := IntWalk.i64_in _ (by omega)
  have HNO := Lib.hid (fun h => hold_no (x := x) h)
  have HYE := Lib.hid (fun h => hold_yes (x := x) h)
  have HMO := Lib.hid (fun h => hold_more (x := x) (m := m) h)
  have HHX := Lib.hid (HHO.out x)
  have HB_0 : Hid (Below w.heap.size w (w.alloc (.cells #[.int .i64 x.t, .int .i64 x.d, .int .i64 x.r] 23))) := Lib.hid ((Below.refl _ _).alloc (Nat.le_refl _) _)
  have HT_0 := Lib.hid (TmA.new w x 23)
  generalize gdR x = G at *
  generalize gdE x = GE at *
  by_cases hz : holdE x = 0
  · obtain ⟨y1, y2, y3, y4, y5, y6⟩ := HYE.out hz
    obtain ⟨b1, b2, b3, b4⟩ := HMO.out hz
    rw [hz] at HHX
    have HH1 := Lib.hid (HHO.out ⟨x.t + m, x.d, x.r⟩)
    have HH2 := Lib.hid (HHO.out ⟨x.t, x.d + m, x.r⟩)
    simp only at HH1 HH2
    clear HHO HNO HYE HMO
    obtain ⟨h, hh⟩ : ∃ h, holdF x = h := ⟨_, rfl⟩
    rw [hh] at HHX y1 y2 y3 b2 b4
    subst y4
    rw [y1] at HGD
    have z1 : (h != h) = false := by simp
    have z2 : decide (h < 1) = false := decide_eq_false (by omega)
    have z3 : decide (x.t < h) = false := decide_eq_false (by omega)
    have w1' : IntKind.i64.wrap (x.t + m) = x.t + m := IntWalk.i64_in _ (by omega)
    have w2' : IntKind.i64.wrap (x.d + m) = x.d + m := IntWalk.i64_in _ (by omega)
    generalize holdF ⟨x.t + m, x.d, x.r⟩ = a at *
    generalize holdE ⟨x.t + m, x.d, x.r⟩ = ai at *
    generalize holdF ⟨x.t, x.d + m, x.r⟩ = b at *
    generalize holdE ⟨x.t, x.d + m, x.r⟩ = bi at *
    clear hh hz y2 y3 y5 y6
    go_enter Try.func8, Try.ntmps8
    go_upto_region 1 with (fail)
    generalize w.alloc (.cells #[.int .i64 x.t, .int .i64 x.d, .int .i64 x.r] 23) = w0 at *
    obtain ⟨t0, t1, t2⟩ := HT_0.out
    try simp only at t0 t1 t2
    go_wp2_with fail
    refine (HHX.out _).mono ?_
    rintro e w1 ⟨rfl, hb⟩
    clear t0 t1 t2
    have B_1 := Lib.hid (HB_0.out.trans (hb.mono HB_0.out.size))
    have t_1 := Lib.hid (HT_0.out.on hb)
    clear HB_0 HT_0
    clear hb
    obtain ⟨t0, t1, t2⟩ := t_1.out
    try simp only at t0 t1 t2
    go_wp2_with fail
    refine (HGD.out _).mono ?_
    rintro e w2 ⟨rfl, hb⟩
    clear t0 t1 t2
    have B_2 := Lib.hid (B_1.out.trans (hb.mono B_1.out.size))
    have t_2 := Lib.hid (t_1.out.on hb)
    clear B_1 t_1
    clear hb
    obtain ⟨t0, t1, t2⟩ := t_2.out
    try simp only at t0 t1 t2
    go_upto_region 7 with (fail)
    clear t0 t1 t2
    go_cut [9, 10] from 72 to 73 (fun p q wx => ∃ g1 g2 : Nat, p = .pointer (some ⟨g1, 0, none⟩) ∧ q = .pointer (some ⟨g2, 0, none⟩) ∧ g1 ≠ g2 ∧ w2.heap.size ≤ g1 ∧ w2.heap.size ≤ g2 ∧ Hid (TmW wx g1 x) ∧ Hid (TmW wx g2 x) ∧ Hid (Below w2.heap.size w2 wx))
    case first =>
      have hw1 : Below w2.heap.size w2 (w2.alloc (.cells #[.int .i64 x.t, .int .i64 x.d, .int .i64 x.r] 23)) := (Below.refl _ _).alloc (Nat.le_refl _) _
      have hw2 : Below (w2.alloc (.cells #[.int .i64 x.t, .int .i64 x.d, .int .i64 x.r] 23)).heap.size (w2.alloc (.cells #[.int .i64 x.t, .int .i64 x.d, .int .i64 x.r] 23)) ((w2.alloc (.cells #[.int .i64 x.t, .int .i64 x.d, .int .i64 x.r] 23)).alloc (.cells #[.int .i64 x.t, .int .i64 x.d, .int .i64 x.r] 23)) := (Below.refl _ _).alloc (Nat.le_refl _) _
      have hd0 : Below ((w2.alloc (.cells #[.int .i64 x.t, .int .i64 x.d, .int .i64 x.r] 23)).alloc (.cells #[.int .i64 x.t, .int .i64 x.d, .int .i64 x.r] 23)).heap.size ((w2.alloc (.cells #[.int .i64 x.t, .int .i64 x.d, .int .i64 x.r] 23)).alloc (.cells #[.int .i64 x.t, .int .i64 x.d, .int .i64 x.r] 23)) ((w2.alloc (.cells #[.int .i64 x.t, .int .i64 x.d, .int .i64 x.r] 23)).alloc (.cells #[.int .i64 x.t, .int .i64 x.d, .int .i64 x.r] 23)).drew := (Below.refl _ _).drew
      have hA := Lib.hid (((TmW.new w2 x 23).on hw2).on hd0)
      have hB : Hid (TmW ((w2.alloc (.cells #[.int .i64 x.t, .int .i64 x.d, .int .i64 x.r] 23)).alloc (.cells #[.int .i64 x.t, .int .i64 x.d, .int .i64 x.r] 23)).drew (w2.heap.size + 1) x) := Lib.hid (by
        have h := (TmW.new (w2.alloc (.cells #[.int .i64 x.t, .int .i64 x.d, .int .i64 x.r] 23)) x 23).on hd0
        have e : (w2.alloc (.cells #[.int .i64 x.t, .int .i64 x.d, .int .i64 x.r] 23)).heap.size = w2.heap.size + 1 := by simp
        rw [e] at h
        exact h)
      have hBe := Lib.hid (hw1.trans ((hw2.trans (hd0.mono hw2.size)).mono hw1.size))
      clear hw1 hw2 hd0
      obtain ⟨t0, t1, t2⟩ := t_2.out
      have hlt := t_2.out.lt
      go_region
      all_goals go_wp2_with fail
      all_goals first | exact ⟨_, _, rfl, rfl, by omega, by omega, by omega, hA, hB, hBe⟩ | exact ⟨_, _, rfl, rfl, by omega, by omega, by omega, hB, hA, hBe⟩ | (go_meet; exact ⟨_, _, rfl, rfl, by omega, by omega, by omega, hA, hB, hBe⟩) | (go_meet; exact ⟨_, _, rfl, rfl, by omega, by omega, by omega, hB, hA, hBe⟩)
    case rest =>
      obtain ⟨g1, g2, rfl, rfl, hne, hg1, hg2, hX, hY, hb⟩ := hcut
      have hne2 : g2 ≠ g1 := Ne.symm hne
      obtain ⟨⟨x0, x1, x2⟩, xf⟩ := hX.out
      obtain ⟨⟨k0, k1, k2⟩, kf⟩ := hY.out
      go_upto_region 10 with (fail)
      have hX2 := Lib.hid ((hX.out.put0 (x.t + m)).other (p := ⟨g2, 1, none⟩) hne2 (.int .i64 (x.d + m))).1
      have hY2 := Lib.hid ((hY.out.other (p := ⟨g1, 0, none⟩) hne (.int .i64 (x.t + m))).put1 (x.d + m)).1
      have hb2 := (hb.out.setCell (p := ⟨g1, 0, none⟩) hg1 (.int .i64 (x.t + m))).setCell (p := ⟨g2, 1, none⟩) hg2 (.int .i64 (x.d + m))
      clear x0 x1 x2 xf k0 k1 k2 kf hX hY hb
      generalize (wc.setCell ⟨g1, 0, none⟩ (.int .i64 (x.t + m))).setCell ⟨g2, 1, none⟩ (.int .i64 (x.d + m)) = ws at *
      have B_3 := Lib.hid (B_2.out.trans (hb2.mono B_2.out.size))
      have t_3 := Lib.hid (t_2.out.on hb2)
      clear B_2 t_2
      clear hb2 hne hne2 hg1 hg2
      obtain ⟨X0, X1, X2⟩ := hX2.out
      try simp only at X0 X1 X2
      go_wp2_with fail
      refine (HH1.out _).mono ?_
      rintro e w3 ⟨rfl, hb⟩
      clear X0 X1 X2
      have B_4 := Lib.hid (B_3.out.trans (hb.mono B_3.out.size))
      have t_4 := Lib.hid (t_3.out.on hb)
      have X_4 := Lib.hid (hX2.out.on hb)
      have Y_4 := Lib.hid (hY2.out.on hb)
      clear B_3 t_3 hX2 hY2
      clear hb
      obtain ⟨Y0, Y1, Y2⟩ := Y_4.out
      try simp only at Y0 Y1 Y2
      go_wp2_with fail
      refine (HH2.out _).mono ?_
      rintro e w4 ⟨rfl, hb⟩
      clear Y0 Y1 Y2
      have B_5 := Lib.hid (B_4.out.trans (hb.mono B_4.out.size))
      have t_5 := Lib.hid (t_4.out.on hb)
      have X_5 := Lib.hid (X_4.out.on hb)
      have Y_5 := Lib.hid (Y_4.out.on hb)
      clear B_4 t_4 X_4 Y_4
      clear hb
      obtain ⟨X0, X1, X2⟩ := X_5.out
      try simp only at X0 X1 X2
      rcases b1 with rfl | ⟨rfl, b1⟩
      · have b2 := b2 rfl
        have c1 : decide (h ≤ a) = true := decide_eq_true b2
        rcases b3 with rfl | rfl
        · have b4 := b4 rfl
          have c2 : decide (b ≤ h) = true := decide_eq_true b4
          go_wp2_with fail
          refine (HAW.out _).mono ?_
          rintro e w5 ⟨rfl, hb⟩
          clear X0 X1 X2
          have B_6 := Lib.hid (B_5.out.trans (hb.mono B_5.out.size))
          have t_6 := Lib.hid (t_5.out.on hb)
          have X_6 := Lib.hid (X_5.out.on hb)
          have Y_6 := Lib.hid (Y_5.out.on hb)
          clear B_5 t_5 X_5 Y_5
          clear hb
          go_wp2_with fail
          go_ret
          exact ⟨rfl, B_6.out⟩
        · clear b4
          go_wp2_with fail
          refine (HAW.out _).mono ?_
          rintro e w5 ⟨rfl, hb⟩
          clear X0 X1 X2
          have B_6 := Lib.hid (B_5.out.trans (hb.mono B_5.out.size))
          have t_6 := Lib.hid (t_5.out.on hb)
          have X_6 := Lib.hid (X_5.out.on hb)
          have Y_6 := Lib.hid (Y_5.out.on hb)
          clear B_5 t_5 X_5 Y_5
          clear hb
          go_wp2_with fail
          go_ret
          exact ⟨rfl, B_6.out⟩
      · have c1 : decide (1000000 < x.t + m) = true := decide_eq_true b1
        clear b2
        rcases b3 with rfl | rfl
        · have b4 := b4 rfl
          have c2 : decide (b ≤ h) = true := decide_eq_true b4
          go_wp2_with fail
          refine (HAW.out _).mono ?_
          rintro e w5 ⟨rfl, hb⟩
          clear X0 X1 X2
          have B_6 := Lib.hid (B_5.out.trans (hb.mono B_5.out.size))
          have t_6 := Lib.hid (t_5.out.on hb)
          have X_6 := Lib.hid (X_5.out.on hb)
          have Y_6 := Lib.hid (Y_5.out.on hb)
          clear B_5 t_5 X_5 Y_5
          clear hb
          go_wp2_with fail
          go_ret
          exact ⟨rfl, B_6.out⟩
        · clear b4
          go_wp2_with fail
          refine (HAW.out _).mono ?_
          rintro e w5 ⟨rfl, hb⟩
          clear X0 X1 X2
          have B_6 := Lib.hid (B_5.out.trans (hb.mono B_5.out.size))
          have t_6 := Lib.hid (t_5.out.on hb)
          have X_6 := Lib.hid (X_5.out.on hb)
          have Y_6 := Lib.hid (Y_5.out.on hb)
          clear B_5 t_5 X_5 Y_5
          clear hb
          go_wp2_with fail
          go_ret
          exact ⟨rfl, B_6.out⟩
  · obtain ⟨n1, n2, n3⟩ := HNO.out hz
    rw [n1, n2] at HHX
    clear HHO HNO HYE HMO n1 n2 hz
    rcases n3 with rfl | ⟨rfl, n3⟩
    · go_enter Try.func8, Try.ntmps8
      go_upto_region 1 with (fail)
      generalize w.alloc (.cells #[.int .i64 x.t, .int .i64 x.d, .int .i64 x.r] 23) = w0 at *
      obtain ⟨t0, t1, t2⟩ := HT_0.out
      try simp only at t0 t1 t2
      go_wp2_with fail
      refine (HHX.out _).mono ?_
      rintro e w1 ⟨rfl, hb⟩
      clear t0 t1 t2
      have B_1 := Lib.hid (HB_0.out.trans (hb.mono HB_0.out.size))
      have t_1 := Lib.hid (HT_0.out.on hb)
      clear HB_0 HT_0
      clear hb
      obtain ⟨t0, t1, t2⟩ := t_1.out
      try simp only at t0 t1 t2
      go_wp2_with fail
      refine (HGD.out _).mono ?_
      rintro e w2 ⟨rfl, hb⟩
      clear t0 t1 t2
      have B_2 := Lib.hid (B_1.out.trans (hb.mono B_1.out.size))
      have t_2 := Lib.hid (t_1.out.on hb)
      clear B_1 t_1
      clear hb
      obtain ⟨t0, t1, t2⟩ := t_2.out
      try simp only at t0 t1 t2
      go_wp2_with fail
      refine (HAW.out _).mono ?_
      rintro e w3 ⟨rfl, hb⟩
      clear t0 t1 t2
      have B_3 := Lib.hid (B_2.out.trans (hb.mono B_2.out.size))
      have t_3 := Lib.hid (t_2.out.on hb)
      clear B_2 t_2
      clear hb
      go_wp2_with fail
      go_ret
      exact ⟨rfl, B_3.out⟩
    · rcases n3 with n3 | ⟨n4, n3⟩
      · have c1 : decide (G < 1) = true := decide_eq_true n3
        go_enter Try.func8, Try.ntmps8
        go_upto_region 1 with (fail)
        generalize w.alloc (.cells #[.int .i64 x.t, .int .i64 x.d, .int .i64 x.r] 23) = w0 at *
        obtain ⟨t0, t1, t2⟩ := HT_0.out
        try simp only at t0 t1 t2
        go_wp2_with fail
        refine (HHX.out _).mono ?_
        rintro e w1 ⟨rfl, hb⟩
        clear t0 t1 t2
        have B_1 := Lib.hid (HB_0.out.trans (hb.mono HB_0.out.size))
        have t_1 := Lib.hid (HT_0.out.on hb)
        clear HB_0 HT_0
        clear hb
        obtain ⟨t0, t1, t2⟩ := t_1.out
        try simp only at t0 t1 t2
        go_wp2_with fail
        refine (HGD.out _).mono ?_
        rintro e w2 ⟨rfl, hb⟩
        clear t0 t1 t2
        have B_2 := Lib.hid (B_1.out.trans (hb.mono B_1.out.size))
        have t_2 := Lib.hid (t_1.out.on hb)
        clear B_1 t_1
        clear hb
        obtain ⟨t0, t1, t2⟩ := t_2.out
        try simp only at t0 t1 t2
        go_wp2_with fail
        refine (HAW.out _).mono ?_
        rintro e w3 ⟨rfl, hb⟩
        clear t0 t1 t2
        have B_3 := Lib.hid (B_2.out.trans (hb.mono B_2.out.size))
        have t_3 := Lib.hid (t_2.out.on hb)
        clear B_2 t_2
        clear hb
        go_wp2_with fail
        go_ret
        exact ⟨rfl, B_3.out⟩
      · have c1 : decide (G < 1) = false := decide_eq_false n4
        rcases n3 with n3 | ⟨n5, n3⟩
        · have c2 : decide (x.t < 1) = true := decide_eq_true n3
          go_enter Try.func8, Try.ntmps8
          go_upto_region 1 with (fail)
          generalize w.alloc (.cells #[.int .i64 x.t, .int .i64 x.d, .int .i64 x.r] 23) = w0 at *
          obtain ⟨t0, t1, t2⟩ := HT_0.out
          try simp only at t0 t1 t2
          go_wp2_with fail
          refine (HHX.out _).mono ?_
          rintro e w1 ⟨rfl, hb⟩
          clear t0 t1 t2
          have B_1 := Lib.hid (HB_0.out.trans (hb.mono HB_0.out.size))
          have t_1 := Lib.hid (HT_0.out.on hb)
          clear HB_0 HT_0
          clear hb
          obtain ⟨t0, t1, t2⟩ := t_1.out
          try simp only at t0 t1 t2
          go_wp2_with fail
          refine (HGD.out _).mono ?_
          rintro e w2 ⟨rfl, hb⟩
          clear t0 t1 t2
          have B_2 := Lib.hid (B_1.out.trans (hb.mono B_1.out.size))
          have t_2 := Lib.hid (t_1.out.on hb)
          clear B_1 t_1
          clear hb
          obtain ⟨t0, t1, t2⟩ := t_2.out
          try simp only at t0 t1 t2
          go_wp2_with fail
          refine (HAW.out _).mono ?_
          rintro e w3 ⟨rfl, hb⟩
          clear t0 t1 t2
          have B_3 := Lib.hid (B_2.out.trans (hb.mono B_2.out.size))
          have t_3 := Lib.hid (t_2.out.on hb)
          clear B_2 t_2
          clear hb
          go_wp2_with fail
          go_ret
          exact ⟨rfl, B_3.out⟩
        · have c2 : decide (x.t < 1) = false := decide_eq_false n5
          have c3 : decide (1000000 < x.t) = true := decide_eq_true n3
          go_enter Try.func8, Try.ntmps8
          go_upto_region 1 with (fail)
          generalize w.alloc (.cells #[.int .i64 x.t, .int .i64 x.d, .int .i64 x.r] 23) = w0 at *
          obtain ⟨t0, t1, t2⟩ := HT_0.out
          try simp only at t0 t1 t2
          go_wp2_with fail
          refine (HHX.out _).mono ?_
          rintro e w1 ⟨rfl, hb⟩
          clear t0 t1 t2
          have B_1 := Lib.hid (HB_0.out.trans (hb.mono HB_0.out.size))
          have t_1 := Lib.hid (HT_0.out.on hb)
          clear HB_0 HT_0
          clear hb
          obtain ⟨t0, t1, t2⟩ := t_1.out
          try simp only at t0 t1 t2
          go_wp2_with fail
          refine (HGD.out _).mono ?_
          rintro e w2 ⟨rfl, hb⟩
          clear t0 t1 t2
          have B_2 := Lib.hid (B_1.out.trans (hb.mono B_1.out.size))
          have t_2 := Lib.hid (t_1.out.on hb)
          clear B_1 t_1
          clear hb
          obtain ⟨t0, t1, t2⟩ := t_2.out
          try simp only at t0 t1 t2
          go_wp2_with fail
          refine (HAW.out _).mono ?_
          rintro e w3 ⟨rfl, hb⟩
          clear t0 t1 t2
          have B_3 := Lib.hid (B_2.out.trans (hb.mono B_2.out.size))
          have t_3 := Lib.hid (t_2.out.on hb)
          clear B_2 t_2
          clear hb
          go_wp2_with fail
          go_ret
          exact ⟨rfl, B_3.out⟩

theorem parOk : ∀ t ∈ (#[23, 5] : Array TypeId).toList, Try.prog.readableRec t = true ∧ t < Try.prog.types.size := by
  have hall : ([23, 5].all fun t => Try.prog.readableRec t && decide (t < Try.prog.types.size)) = true := by kernel_rfl
  intro t ht
  simpa using List.all_eq_true.1 hall t ht

set_option maxRecDepth 100000 in
/-- What the walk gives, for every argument. -/
theorem contract (H : Type) (enc : TypeId × Value → H) (W : World) (base : Nat) (args : Array Value) (ds gs : List (DataW H)) (before : List MemPlace)
    (hval : ∀ (j : Nat) t v, Try.f8.params[j]? = some t → args[j]? = some v → Value.okWide Try.prog W .any base t v)
    (hW : DataW.Whole enc Try.prog Try.f8.params.toList Rows.voteHoldsSpec.vars false W args.toList ds gs before) :
    Calls Try.prog 8 args W fun e W' => ∃ v, e = .returned v ∧ Rows.voteHoldsSpec.post enc Try.prog Try.f8 false true false false W args v W' := by
  have hW' := hW
  obtain ⟨p, q, hA0, hV, rfl, hfz, hnd⟩ := hW
  have hA : DataW.TrodAll enc Try.prog W 0 (fun _ => true) true Try.f8.params.toList args.toList ds p := hA0
  rw [Try.params8] at hA hval
  obtain ⟨v0, vs0, d0, ds0, p0, q0, hargs, rfl, rfl, h0, r0⟩ := trodAll_cons hA
  obtain ⟨v1, vs1, d1, ds1, p1, q1, rfl, rfl, rfl, h1, r1⟩ := trodAll_cons r0
  obtain ⟨rfl, rfl, rfl⟩ := trodAll_nil r1
  obtain rfl : args = #[v0, v1] := by cases args; simp_all
  obtain ⟨rfl, rfl⟩ := trodVars_none hV
  obtain ⟨x, rfl, hx⟩ := open_tm (hval 0 23 v0 rfl rfl) h0
  obtain ⟨m, rfl, hm⟩ := open_nat Try.underlying5 (m := 255) (fun a => u8_of_wf) (hval 1 5 v1 rfl rfl) h1
  clear hA0
  refine (walk x m W hx hm).mono fun e W' ⟨he, hb⟩ => ?_
  subst he
  exact ⟨_, rfl, law_post rfl (by rw [Try.params8]; exact parOk) rfl hW' rfl rfl rfl hb⟩

set_option maxRecDepth 100000 in
theorem lifted (os : Os) (started : os.Started) (H : Type) (enc : TypeId × Value → H) :
    ReturnsInHanded {} Try.checked os 8 .any (Rows.voteHoldsSpec.pre6 enc Try.prog Try.f8 Rows.voteHoldsRow.domain false) (Rows.voteHoldsSpec.post enc Try.prog Try.f8 false true false false) := by
  refine returnsInHanded_of_change (C := Try.checked) own started (by kernel_rfl) Try.func8
    (ChangeSpec.witness6 (enc := enc) (C := Try.checked) false ⟨#[], #[.agg #[.int .i64 0, .int .i64 0, .int .i64 0], .int .u8 0], []⟩ 8 (by kernel_rfl) (by kernel_rfl) (by kernel_rfl) (by kernel_rfl)) ?_
  intro W base args ds gs before hval hW _ _
  exact contract H enc W base args ds gs before hval hW

/-- THE STATEMENT. -/
theorem said : Rows.VoteHoldsSaid :=
  OpenClaim.holds_of_wide 8 Try.f8 rfl rfl rfl rfl rfl rfl rfl ⟨rfl, rfl, rfl, rfl, rfl⟩ rfl rfl rfl rfl rfl (by kernel_rfl) Try.func8 (by kernel_rfl)
    (of_decide_eq_true (by kernel_rfl)) (by unfold Func.isWrapper; first | (rw [if_pos (by decide +kernel)]; kernel_rfl) | (rw [if_neg (by decide +kernel)]; exact ⟨rfl, rfl⟩))
    (fun os started H enc _ => lifted os started H enc)
end Go.Proofs.Ytlefnohcfnlejaa.lawHolds
