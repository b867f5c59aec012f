/-
  VoteSame: what is refused changes nothing; what is granted hangs on the time by this clock alone: the law returns true for every input.
-/
import Derived.Test.YtlefnohcfnlejaaVw
namespace Go.Proofs.Ytlefnohcfnlejaa.lawSame
open Go.Sort Go.ChangeShapes Go.WideShapes Go.ChangeAt Go.RowKit Go.Joins Go.Proofs.Ytlefnohcfnlejaa.Pure

set_option maxRecDepth 100000 in
set_option maxHeartbeats 4000000 in
theorem walk (x : Tm) (v : Vt) (f e n : Int) (m : Nat) (w : World) (hv : FitV v) (hm : (m : Int) ≤ 65535) : Calls Try.prog 7 #[.agg #[.int .i64 x.t, .int .i64 x.d, .int .i64 x.r, .int .u64 v.e, .int .i64 v.t, .int .i64 v.u, .int .i64 v.w, .int .i64 f, .int .u64 e, .int .i64 n], .int .u16 m] w fun e w' => e = .returned (.bool true) ∧ Below w.heap.size w w' := by
  have HAW := Lib.hid (fun W => awake_any W)
  have HA0 := Lib.hid (fun W => ask_any x v f e n W)
  have wm : IntKind.i64.wrap (m : Int) = (m : Int) := IntWalk.i64_in _ (by omega)
  have HSA := Lib.hid (fun h h1 h2 h3 => ak_same (x := x) (v := v) (f := f) (e := e) (n := n) (b := m) h h1 h2 h3 (by omega) (by omega))
  have HA1 := Lib.hid (fun W => ask_any x (addV m v) f e (n + m) W)
  have HB_0 : Hid (Below w.heap.size w (w.alloc (.cells #[.int .i64 x.t, .int .i64 x.d, .int .i64 x.r, .int .u64 v.e, .int .i64 v.t, .int .i64 v.u, .int .i64 v.w, .int .i64 f, .int .u64 e, .int .i64 n] 40))) := Lib.hid ((Below.refl _ _).alloc (Nat.le_refl _) _)
  have HQ_0 := Lib.hid (QsA.new w x v f e n 40)
  generalize hE : akE x v f n = E at *
  generalize hB : akB x v f e n = B at *
  generalize hR : akR x v f e n = R at *
  clear hE hB hR
  by_cases h0 : E = 0
  · have z1 : (E != 0) = false := by rw [h0]; rfl
    subst h0
    by_cases c1 : 549755813888 < n
    · have d1 : decide (549755813888 < n) = true := decide_eq_true c1
      clear HSA HA1 c1
      go_enter Try.func7, Try.ntmps7
      go_upto_region 1 with (fail)
      generalize w.alloc (.cells #[.int .i64 x.t, .int .i64 x.d, .int .i64 x.r, .int .u64 v.e, .int .i64 v.t, .int .i64 v.u, .int .i64 v.w, .int .i64 f, .int .u64 e, .int .i64 n] 40) = w0 at *
      obtain ⟨q0, q1, q2, q3, q4, q5, q6, q7, q8, q9⟩ := HQ_0.out
      try simp only at q0 q1 q2 q3 q4 q5 q6 q7 q8 q9
      go_wp2_with fail
      refine (HA0.out _).mono ?_
      rintro e w1 ⟨rfl, hb⟩
      clear q0 q1 q2 q3 q4 q5 q6 q7 q8 q9
      have B_1 := Lib.hid (HB_0.out.trans (hb.mono HB_0.out.size))
      have q_1 := Lib.hid (HQ_0.out.on hb)
      clear HB_0 HQ_0
      clear hb
      have hbn : Below w1.heap.size w1 (w1.alloc (.cells #[.int .u64 R.e, .int .i64 R.t, .int .i64 R.u, .int .i64 R.w] 38)) := (Below.refl _ _).alloc (Nat.le_refl _) _
      have B_2 := Lib.hid (B_1.out.trans (hbn.mono B_1.out.size))
      have q_2 := Lib.hid (q_1.out.on hbn)
      clear B_1 q_1
      have a_2 : Hid (VtA (w1.alloc (.cells #[.int .u64 R.e, .int .i64 R.t, .int .i64 R.u, .int .i64 R.w] 38)) w1.heap.size R) := Lib.hid (VtA.new w1 R _)
      clear hbn
      go_upto_region 2 with (fail)
      generalize w1.alloc (.cells #[.int .u64 R.e, .int .i64 R.t, .int .i64 R.u, .int .i64 R.w] 38) = w2 at *
      generalize w1.heap.size = ga at *
      obtain ⟨q0, q1, q2, q3, q4, q5, q6, q7, q8, q9⟩ := q_2.out
      try simp only at q0 q1 q2 q3 q4 q5 q6 q7 q8 q9
      go_wp2_with fail
      refine (HAW.out _).mono ?_
      rintro e w3 ⟨rfl, hb⟩
      clear q0 q1 q2 q3 q4 q5 q6 q7 q8 q9
      have B_3 := Lib.hid (B_2.out.trans (hb.mono B_2.out.size))
      have q_3 := Lib.hid (q_2.out.on hb)
      have a_3 := Lib.hid (a_2.out.on hb)
      clear B_2 q_2 a_2
      clear hb
      go_wp2_with fail
      go_ret
      exact ⟨rfl, B_3.out⟩
    · have d1 : decide (549755813888 < n) = false := decide_eq_false c1
      by_cases c2 : 549755813888 < v.u
      · have d2 : decide (549755813888 < v.u) = true := decide_eq_true c2
        clear HSA HA1 c1 c2
        go_enter Try.func7, Try.ntmps7
        go_upto_region 1 with (fail)
        generalize w.alloc (.cells #[.int .i64 x.t, .int .i64 x.d, .int .i64 x.r, .int .u64 v.e, .int .i64 v.t, .int .i64 v.u, .int .i64 v.w, .int .i64 f, .int .u64 e, .int .i64 n] 40) = w0 at *
        obtain ⟨q0, q1, q2, q3, q4, q5, q6, q7, q8, q9⟩ := HQ_0.out
        try simp only at q0 q1 q2 q3 q4 q5 q6 q7 q8 q9
        go_wp2_with fail
        refine (HA0.out _).mono ?_
        rintro e w1 ⟨rfl, hb⟩
        clear q0 q1 q2 q3 q4 q5 q6 q7 q8 q9
        have B_1 := Lib.hid (HB_0.out.trans (hb.mono HB_0.out.size))
        have q_1 := Lib.hid (HQ_0.out.on hb)
        clear HB_0 HQ_0
        clear hb
        have hbn : Below w1.heap.size w1 (w1.alloc (.cells #[.int .u64 R.e, .int .i64 R.t, .int .i64 R.u, .int .i64 R.w] 38)) := (Below.refl _ _).alloc (Nat.le_refl _) _
        have B_2 := Lib.hid (B_1.out.trans (hbn.mono B_1.out.size))
        have q_2 := Lib.hid (q_1.out.on hbn)
        clear B_1 q_1
        have a_2 : Hid (VtA (w1.alloc (.cells #[.int .u64 R.e, .int .i64 R.t, .int .i64 R.u, .int .i64 R.w] 38)) w1.heap.size R) := Lib.hid (VtA.new w1 R _)
        clear hbn
        go_upto_region 2 with (fail)
        generalize w1.alloc (.cells #[.int .u64 R.e, .int .i64 R.t, .int .i64 R.u, .int .i64 R.w] 38) = w2 at *
        generalize w1.heap.size = ga at *
        obtain ⟨q0, q1, q2, q3, q4, q5, q6, q7, q8, q9⟩ := q_2.out
        try simp only at q0 q1 q2 q3 q4 q5 q6 q7 q8 q9
        go_wp2_with fail
        refine (HAW.out _).mono ?_
        rintro e w3 ⟨rfl, hb⟩
        clear q0 q1 q2 q3 q4 q5 q6 q7 q8 q9
        have B_3 := Lib.hid (B_2.out.trans (hb.mono B_2.out.size))
        have q_3 := Lib.hid (q_2.out.on hb)
        have a_3 := Lib.hid (a_2.out.on hb)
        clear B_2 q_2 a_2
        clear hb
        go_wp2_with fail
        go_ret
        exact ⟨rfl, B_3.out⟩
      · have d2 : decide (549755813888 < v.u) = false := decide_eq_false c2
        by_cases c3 : 549755813888 < v.w
        · have d3 : decide (549755813888 < v.w) = true := decide_eq_true c3
          clear HSA HA1 c1 c2 c3
          go_enter Try.func7, Try.ntmps7
          go_upto_region 1 with (fail)
          generalize w.alloc (.cells #[.int .i64 x.t, .int .i64 x.d, .int .i64 x.r, .int .u64 v.e, .int .i64 v.t, .int .i64 v.u, .int .i64 v.w, .int .i64 f, .int .u64 e, .int .i64 n] 40) = w0 at *
          obtain ⟨q0, q1, q2, q3, q4, q5, q6, q7, q8, q9⟩ := HQ_0.out
          try simp only at q0 q1 q2 q3 q4 q5 q6 q7 q8 q9
          go_wp2_with fail
          refine (HA0.out _).mono ?_
          rintro e w1 ⟨rfl, hb⟩
          clear q0 q1 q2 q3 q4 q5 q6 q7 q8 q9
          have B_1 := Lib.hid (HB_0.out.trans (hb.mono HB_0.out.size))
          have q_1 := Lib.hid (HQ_0.out.on hb)
          clear HB_0 HQ_0
          clear hb
          have hbn : Below w1.heap.size w1 (w1.alloc (.cells #[.int .u64 R.e, .int .i64 R.t, .int .i64 R.u, .int .i64 R.w] 38)) := (Below.refl _ _).alloc (Nat.le_refl _) _
          have B_2 := Lib.hid (B_1.out.trans (hbn.mono B_1.out.size))
          have q_2 := Lib.hid (q_1.out.on hbn)
          clear B_1 q_1
          have a_2 : Hid (VtA (w1.alloc (.cells #[.int .u64 R.e, .int .i64 R.t, .int .i64 R.u, .int .i64 R.w] 38)) w1.heap.size R) := Lib.hid (VtA.new w1 R _)
          clear hbn
          go_upto_region 2 with (fail)
          generalize w1.alloc (.cells #[.int .u64 R.e, .int .i64 R.t, .int .i64 R.u, .int .i64 R.w] 38) = w2 at *
          generalize w1.heap.size = ga at *
          obtain ⟨q0, q1, q2, q3, q4, q5, q6, q7, q8, q9⟩ := q_2.out
          try simp only at q0 q1 q2 q3 q4 q5 q6 q7 q8 q9
          go_wp2_with fail
          refine (HAW.out _).mono ?_
          rintro e w3 ⟨rfl, hb⟩
          clear q0 q1 q2 q3 q4 q5 q6 q7 q8 q9
          have B_3 := Lib.hid (B_2.out.trans (hb.mono B_2.out.size))
          have q_3 := Lib.hid (q_2.out.on hb)
          have a_3 := Lib.hid (a_2.out.on hb)
          clear B_2 q_2 a_2
          clear hb
          go_wp2_with fail
          go_ret
          exact ⟨rfl, B_3.out⟩
        · have d3 : decide (549755813888 < v.w) = false := decide_eq_false c3
          obtain ⟨s1, s2, s3, s4, s5, s6, s7⟩ := HSA.out rfl (by omega) (by omega) (by omega)
          rw [s1, s2, s3] at HA1
          clear HSA s1 s2 s3
          simp only [addV] at HA1
          have x1 : IntKind.i64.wrap (n + m) = n + m := IntWalk.i64_in _ (by omega)
          have x2 : IntKind.i64.wrap (v.u + m) = v.u + m := IntWalk.i64_in _ (by omega)
          have x3 : IntKind.i64.wrap (v.w + m) = v.w + m := IntWalk.i64_in _ (by omega)
          have x4 : IntKind.i64.wrap (R.u + m) = R.u + m := IntWalk.i64_in _ (by omega)
          have x5 : IntKind.i64.wrap (R.w + m) = R.w + m := IntWalk.i64_in _ (by omega)
          have y1 : (R.e == R.e) = true := by simp
          have y2 : (R.t == R.t) = true := by simp
          have y3 : (R.u + m == R.u + m) = true := by simp
          have y4 : (R.w + m == R.w + m) = true := by simp
          clear c1 c2 c3 s5 s6 s7
          go_enter Try.func7, Try.ntmps7
          go_upto_region 1 with (fail)
          generalize w.alloc (.cells #[.int .i64 x.t, .int .i64 x.d, .int .i64 x.r, .int .u64 v.e, .int .i64 v.t, .int .i64 v.u, .int .i64 v.w, .int .i64 f, .int .u64 e, .int .i64 n] 40) = w0 at *
          obtain ⟨q0, q1, q2, q3, q4, q5, q6, q7, q8, q9⟩ := HQ_0.out
          try simp only at q0 q1 q2 q3 q4 q5 q6 q7 q8 q9
          go_wp2_with fail
          refine (HA0.out _).mono ?_
          rintro e w1 ⟨rfl, hb⟩
          clear q0 q1 q2 q3 q4 q5 q6 q7 q8 q9
          have B_1 := Lib.hid (HB_0.out.trans (hb.mono HB_0.out.size))
          have q_1 := Lib.hid (HQ_0.out.on hb)
          clear HB_0 HQ_0
          clear hb
          have hbn : Below w1.heap.size w1 (w1.alloc (.cells #[.int .u64 R.e, .int .i64 R.t, .int .i64 R.u, .int .i64 R.w] 38)) := (Below.refl _ _).alloc (Nat.le_refl _) _
          have B_2 := Lib.hid (B_1.out.trans (hbn.mono B_1.out.size))
          have q_2 := Lib.hid (q_1.out.on hbn)
          clear B_1 q_1
          have a_2 : Hid (VtA (w1.alloc (.cells #[.int .u64 R.e, .int .i64 R.t, .int .i64 R.u, .int .i64 R.w] 38)) w1.heap.size R) := Lib.hid (VtA.new w1 R _)
          clear hbn
          go_upto_region 2 with (fail)
          generalize w1.alloc (.cells #[.int .u64 R.e, .int .i64 R.t, .int .i64 R.u, .int .i64 R.w] 38) = w2 at *
          generalize w1.heap.size = ga at *
          obtain ⟨q0, q1, q2, q3, q4, q5, q6, q7, q8, q9⟩ := q_2.out
          try simp only at q0 q1 q2 q3 q4 q5 q6 q7 q8 q9
          go_upto_region 5 with (fail)
          have hbn : Below w2.heap.size w2 (w2.alloc (.cells #[.int .u64 v.e, .int .i64 v.t, .int .i64 v.u, .int .i64 v.w] 38)) := (Below.refl _ _).alloc (Nat.le_refl _) _
          have HON : Hid (VtW (w2.alloc (.cells #[.int .u64 v.e, .int .i64 v.t, .int .i64 v.u, .int .i64 v.w] 38)) w2.heap.size v) := Lib.hid (VtW.new w2 v _)
          go_upto_region 6 with (fail)
          generalize w2.alloc (.cells #[.int .u64 v.e, .int .i64 v.t, .int .i64 v.u, .int .i64 v.w] 38) = wn at *
          clear q0 q1 q2 q3 q4 q5 q6 q7 q8 q9
          obtain ⟨⟨o0, o1, o2, o3⟩, of_⟩ := HON.out
          go_upto_region 7 with (fail)
          have hbw := (hbn.setCell (p := ⟨w2.heap.size, 2, none⟩) (Nat.le_refl _) (.int .i64 (v.u + m))).setCell (p := ⟨w2.heap.size, 3, none⟩) (Nat.le_refl _) (.int .i64 (v.w + m))
          have HOM := Lib.hid (HON.out.put23 (v.u + m) (v.w + m)).1
          generalize (wn.setCell ⟨w2.heap.size, 2, none⟩ (.int .i64 (v.u + m))).setCell ⟨w2.heap.size, 3, none⟩ (.int .i64 (v.w + m)) = wm at *
          clear o0 o1 o2 o3 of_ HON hbn
          have B_3 := Lib.hid (B_2.out.trans (hbw.mono B_2.out.size))
          have q_3 := Lib.hid (q_2.out.on hbw)
          have a_3 := Lib.hid (a_2.out.on hbw)
          clear B_2 q_2 a_2
          clear hbw
          generalize w2.heap.size = go at *
          obtain ⟨q0, q1, q2, q3, q4, q5, q6, q7, q8, q9⟩ := q_3.out
          try simp only at q0 q1 q2 q3 q4 q5 q6 q7 q8 q9
          obtain ⟨o0, o1, o2, o3⟩ := HOM.out
          try simp only at o0 o1 o2 o3
          go_wp2_with fail
          refine (HA1.out _).mono ?_
          rintro e w3 ⟨rfl, hb⟩
          clear o0 o1 o2 o3
          clear q0 q1 q2 q3 q4 q5 q6 q7 q8 q9
          have B_4 := Lib.hid (B_3.out.trans (hb.mono B_3.out.size))
          have q_4 := Lib.hid (q_3.out.on hb)
          have a_4 := Lib.hid (a_3.out.on hb)
          have o_4 := Lib.hid (HOM.out.on hb)
          clear B_3 q_3 a_3 HOM
          clear hb
          have hbn : Below w3.heap.size w3 (w3.alloc (.cells #[.int .u64 R.e, .int .i64 R.t, .int .i64 (R.u + m), .int .i64 (R.w + m)] 38)) := (Below.refl _ _).alloc (Nat.le_refl _) _
          have B_5 := Lib.hid (B_4.out.trans (hbn.mono B_4.out.size))
          have q_5 := Lib.hid (q_4.out.on hbn)
          have a_5 := Lib.hid (a_4.out.on hbn)
          have o_5 := Lib.hid (o_4.out.on hbn)
          clear B_4 q_4 a_4 o_4
          have b_5 : Hid (VtA (w3.alloc (.cells #[.int .u64 R.e, .int .i64 R.t, .int .i64 (R.u + m), .int .i64 (R.w + m)] 38)) w3.heap.size (⟨R.e, R.t, R.u + m, R.w + m⟩ : Vt)) := Lib.hid (VtA.new w3 (⟨R.e, R.t, R.u + m, R.w + m⟩ : Vt) _)
          clear hbn
          go_upto_region 8 with (fail)
          generalize w3.alloc (.cells #[.int .u64 R.e, .int .i64 R.t, .int .i64 (R.u + m), .int .i64 (R.w + m)] 38) = w4 at *
          generalize w3.heap.size = gb at *
          rcases B with _ | _
          · obtain rfl := s4 rfl
            clear s4
            obtain ⟨q0, q1, q2, q3, q4, q5, q6, q7, q8, q9⟩ := q_5.out
            try simp only at q0 q1 q2 q3 q4 q5 q6 q7 q8 q9
            obtain ⟨a0, a1, a2, a3⟩ := a_5.out
            try simp only at a0 a1 a2 a3
            obtain ⟨o0, o1, o2, o3⟩ := o_5.out
            try simp only at o0 o1 o2 o3
            obtain ⟨b0, b1, b2, b3⟩ := b_5.out
            try simp only at b0 b1 b2 b3
            go_upto_region 10 with (fail)
            clear a0 a1 a2 a3
            clear o0 o1 o2 o3
            clear b0 b1 b2 b3
            clear q0 q1 q2 q3 q4 q5 q6 q7 q8 q9
            obtain ⟨a0, a1, a2, a3⟩ := a_5.out
            try simp only at a0 a1 a2 a3
            obtain ⟨b0, b1, b2, b3⟩ := b_5.out
            try simp only at b0 b1 b2 b3
            go_wp2_with fail
            refine (HAW.out _).mono ?_
            rintro e w5 ⟨rfl, hb⟩
            clear a0 a1 a2 a3
            clear b0 b1 b2 b3
            have B_6 := Lib.hid (B_5.out.trans (hb.mono B_5.out.size))
            have q_6 := Lib.hid (q_5.out.on hb)
            have a_6 := Lib.hid (a_5.out.on hb)
            have o_6 := Lib.hid (o_5.out.on hb)
            have b_6 := Lib.hid (b_5.out.on hb)
            clear B_5 q_5 a_5 o_5 b_5
            clear hb
            go_wp2_with fail
            go_ret
            exact ⟨rfl, B_6.out⟩
          · clear s4
            go_upto_region 10 with (fail)
            obtain ⟨a0, a1, a2, a3⟩ := a_5.out
            try simp only at a0 a1 a2 a3
            obtain ⟨b0, b1, b2, b3⟩ := b_5.out
            try simp only at b0 b1 b2 b3
            go_wp2_with fail
            refine (HAW.out _).mono ?_
            rintro e w5 ⟨rfl, hb⟩
            clear a0 a1 a2 a3
            clear b0 b1 b2 b3
            have B_6 := Lib.hid (B_5.out.trans (hb.mono B_5.out.size))
            have q_6 := Lib.hid (q_5.out.on hb)
            have a_6 := Lib.hid (a_5.out.on hb)
            have o_6 := Lib.hid (o_5.out.on hb)
            have b_6 := Lib.hid (b_5.out.on hb)
            clear B_5 q_5 a_5 o_5 b_5
            clear hb
            go_wp2_with fail
            go_ret
            exact ⟨rfl, B_6.out⟩
  · have z1 : (E != 0) = true := by simpa using h0
    clear HSA HA1 h0
    go_enter Try.func7, Try.ntmps7
    go_upto_region 1 with (fail)
    generalize w.alloc (.cells #[.int .i64 x.t, .int .i64 x.d, .int .i64 x.r, .int .u64 v.e, .int .i64 v.t, .int .i64 v.u, .int .i64 v.w, .int .i64 f, .int .u64 e, .int .i64 n] 40) = w0 at *
    obtain ⟨q0, q1, q2, q3, q4, q5, q6, q7, q8, q9⟩ := HQ_0.out
    try simp only at q0 q1 q2 q3 q4 q5 q6 q7 q8 q9
    go_wp2_with fail
    refine (HA0.out _).mono ?_
    rintro e w1 ⟨rfl, hb⟩
    clear q0 q1 q2 q3 q4 q5 q6 q7 q8 q9
    have B_1 := Lib.hid (HB_0.out.trans (hb.mono HB_0.out.size))
    have q_1 := Lib.hid (HQ_0.out.on hb)
    clear HB_0 HQ_0
    clear hb
    have hbn : Below w1.heap.size w1 (w1.alloc (.cells #[.int .u64 R.e, .int .i64 R.t, .int .i64 R.u, .int .i64 R.w] 38)) := (Below.refl _ _).alloc (Nat.le_refl _) _
    have B_2 := Lib.hid (B_1.out.trans (hbn.mono B_1.out.size))
    have q_2 := Lib.hid (q_1.out.on hbn)
    clear B_1 q_1
    have a_2 : Hid (VtA (w1.alloc (.cells #[.int .u64 R.e, .int .i64 R.t, .int .i64 R.u, .int .i64 R.w] 38)) w1.heap.size R) := Lib.hid (VtA.new w1 R _)
    clear hbn
    go_upto_region 2 with (fail)
    generalize w1.alloc (.cells #[.int .u64 R.e, .int .i64 R.t, .int .i64 R.u, .int .i64 R.w] 38) = w2 at *
    generalize w1.heap.size = ga at *
    obtain ⟨q0, q1, q2, q3, q4, q5, q6, q7, q8, q9⟩ := q_2.out
    try simp only at q0 q1 q2 q3 q4 q5 q6 q7 q8 q9
    go_wp2_with fail
    refine (HAW.out _).mono ?_
    rintro e w3 ⟨rfl, hb⟩
    clear q0 q1 q2 q3 q4 q5 q6 q7 q8 q9
    have B_3 := Lib.hid (B_2.out.trans (hb.mono B_2.out.size))
    have q_3 := Lib.hid (q_2.out.on hb)
    have a_3 := Lib.hid (a_2.out.on hb)
    clear B_2 q_2 a_2
    clear hb
    go_wp2_with fail
    go_ret
    exact ⟨rfl, B_3.out⟩

theorem parOk : ∀ t ∈ (#[40, 45] : Array TypeId).toList, Try.prog.readableRec t = true ∧ t < Try.prog.types.size := by
  have hall : ([40, 45].all fun t => Try.prog.readableRec t && decide (t < Try.prog.types.size)) = true := by kernel_rfl
  intro t ht
  simpa using List.all_eq_true.1 hall t ht

set_option maxRecDepth 100000 in
/-- What the walk gives, for every argument. -/
theorem contract (H : Type) (enc : TypeId × Value → H) (W : World) (base : Nat) (args : Array Value) (ds gs : List (DataW H)) (before : List MemPlace)
    (hval : ∀ (j : Nat) t v, Try.f7.params[j]? = some t → args[j]? = some v → Value.okWide Try.prog W .any base t v)
    (hW : DataW.Whole enc Try.prog Try.f7.params.toList Rows.voteSameSpec.vars false W args.toList ds gs before) :
    Calls Try.prog 7 args W fun e W' => ∃ v, e = .returned v ∧ Rows.voteSameSpec.post enc Try.prog Try.f7 false true false false W args v W' := by
  have hW' := hW
  obtain ⟨p, q, hA0, hV, rfl, hfz, hnd⟩ := hW
  have hA : DataW.TrodAll enc Try.prog W 0 (fun _ => true) true Try.f7.params.toList args.toList ds p := hA0
  rw [Try.params7] at hA hval
  obtain ⟨v0, vs0, d0, ds0, p0, q0, hargs, rfl, rfl, h0, r0⟩ := trodAll_cons hA
  obtain ⟨v1, vs1, d1, ds1, p1, q1, rfl, rfl, rfl, h1, r1⟩ := trodAll_cons r0
  obtain ⟨rfl, rfl, rfl⟩ := trodAll_nil r1
  obtain rfl : args = #[v0, v1] := by cases args; simp_all
  obtain ⟨rfl, rfl⟩ := trodVars_none hV
  obtain ⟨x, v, f, e, n, rfl, hx, hv, hf, he, hn⟩ := open_ask (hval 0 40 v0 rfl rfl) h0
  obtain ⟨m, rfl, hm⟩ := open_nat Try.underlying45 (m := 65535) (fun a => u16_of_wf) (hval 1 45 v1 rfl rfl) h1
  clear hA0
  refine (walk x v f e n m W hv hm).mono fun e W' ⟨he, hb⟩ => ?_
  subst he
  exact ⟨_, rfl, law_post rfl (by rw [Try.params7]; exact parOk) rfl hW' rfl rfl rfl hb⟩

set_option maxRecDepth 100000 in
theorem lifted (os : Os) (started : os.Started) (H : Type) (enc : TypeId × Value → H) :
    ReturnsInHanded {} Try.checked os 7 .any (Rows.voteSameSpec.pre6 enc Try.prog Try.f7 Rows.voteSameRow.domain false) (Rows.voteSameSpec.post enc Try.prog Try.f7 false true false false) := by
  refine returnsInHanded_of_change (C := Try.checked) own started (by kernel_rfl) Try.func7
    (ChangeSpec.witness6 (enc := enc) (C := Try.checked) false ⟨#[], #[.agg #[.int .i64 0, .int .i64 0, .int .i64 0, .int .u64 0, .int .i64 0, .int .i64 0, .int .i64 0, .int .i64 0, .int .u64 0, .int .i64 0], .int .u16 0], []⟩ 8 (by kernel_rfl) (by kernel_rfl) (by kernel_rfl) (by kernel_rfl)) ?_
  intro W base args ds gs before hval hW _ _
  exact contract H enc W base args ds gs before hval hW

/-- THE STATEMENT. -/
theorem said : Rows.VoteSameSaid :=
  OpenClaim.holds_of_wide 7 Try.f7 rfl rfl rfl rfl rfl rfl rfl ⟨rfl, rfl, rfl, rfl, rfl⟩ rfl rfl rfl rfl rfl (by kernel_rfl) Try.func7 (by kernel_rfl)
    (of_decide_eq_true (by kernel_rfl)) (by unfold Func.isWrapper; first | (rw [if_pos (by decide +kernel)]; kernel_rfl) | (rw [if_neg (by decide +kernel)]; exact ⟨rfl, rfl⟩))
    (fun os started H enc _ => lifted os started H enc)
end Go.Proofs.Ytlefnohcfnlejaa.lawSame
