/-
  VoteGives: who asks for a later epoch than any, when nothing is held, is granted it; the same one, for the same epoch, again: the law returns true for every input.
-/
import Derived.Test.YtlefnohcfnlejaaVw
namespace Go.Proofs.Ytlefnohcfnlejaa.lawGives
open Go.Sort Go.ChangeShapes Go.WideShapes Go.ChangeAt Go.RowKit Go.Joins Go.Proofs.Ytlefnohcfnlejaa.Pure

set_option maxRecDepth 100000 in
set_option maxHeartbeats 4000000 in
theorem walk (x : Tm) (v : Vt) (f e n : Int) (w : World) (hv : FitV v) (_ : 0 ≤ e ∧ e ≤ 18446744073709551615) : Calls Try.prog 6 #[.agg #[.int .i64 x.t, .int .i64 x.d, .int .i64 x.r, .int .u64 v.e, .int .i64 v.t, .int .i64 v.u, .int .i64 v.w, .int .i64 f, .int .u64 e, .int .i64 n]] w fun e w' => e = .returned (.bool true) ∧ Below w.heap.size w w' := by
  have HAW := Lib.hid (fun W => awake_any W)
  have HA0 := Lib.hid (fun W => ask_any x v f e n W)
  have HNO : Hid (¬ akE x v f n = 0 → akB x v f e n = false ∧ akR x v f e n = v) := Lib.hid (fun h => ak_no h)
  have HYE := Lib.hid (fun h => ak_gives (x := x) (v := v) (f := f) (e := e) (n := n) hv.1.1 h)
  have HA1 := Lib.hid (fun y f e n W => ask_any x y f e n W)
  have h64 : IntKind.u64.wrap (e + 1) = IntKind.u64.wrap (e + 1) := rfl
  have HB_0 : Hid (Below w.heap.size w (w.alloc (.cells #[.int .i64 x.t, .int .i64 x.d, .int .i64 x.r, .int .u64 v.e, .int .i64 v.t, .int .i64 v.u, .int .i64 v.w, .int .i64 f, .int .u64 e, .int .i64 n] 40))) := Lib.hid ((Below.refl _ _).alloc (Nat.le_refl _) _)
  have HQ_0 := Lib.hid (QsA.new w x v f e n 40)
  by_cases h0 : akE x v f n = 0
  · obtain ⟨y0, y1, y2⟩ := HYE.out h0
    rw [h0] at HA0
    clear HNO HYE
    by_cases hl : 549755813888 < n
    · have d1 : decide (549755813888 < n) = true := decide_eq_true hl
      rcases hB : akB x v f e n with _ | _
      · rw [hB, (y1 hB).1] at HA0
        clear y0 y1 y2 hB HA1 hl h0 h64
        go_enter Try.func6, Try.ntmps6
        go_upto_region 1 with (fail)
        generalize w.alloc (.cells #[.int .i64 x.t, .int .i64 x.d, .int .i64 x.r, .int .u64 v.e, .int .i64 v.t, .int .i64 v.u, .int .i64 v.w, .int .i64 f, .int .u64 e, .int .i64 n] 40) = w0 at *
        obtain ⟨q0, q1, q2, q3, q4, q5, q6, q7, q8, q9⟩ := HQ_0.out
        try simp only at q0 q1 q2 q3 q4 q5 q6 q7 q8 q9
        go_wp2_with fail
        refine (HA0.out _).mono ?_
        rintro e w1 ⟨rfl, hb⟩
        clear q0 q1 q2 q3 q4 q5 q6 q7 q8 q9
        have B_1 := Lib.hid (HB_0.out.trans (hb.mono HB_0.out.size))
        have q_1 := Lib.hid (HQ_0.out.on hb)
        clear HB_0 HQ_0
        clear hb
        have hbn : Below w1.heap.size w1 (w1.alloc (.cells #[.int .u64 v.e, .int .i64 v.t, .int .i64 v.u, .int .i64 v.w] 38)) := (Below.refl _ _).alloc (Nat.le_refl _) _
        have B_2 := Lib.hid (B_1.out.trans (hbn.mono B_1.out.size))
        have q_2 := Lib.hid (q_1.out.on hbn)
        clear B_1 q_1
        have a_2 : Hid (VtA (w1.alloc (.cells #[.int .u64 v.e, .int .i64 v.t, .int .i64 v.u, .int .i64 v.w] 38)) w1.heap.size v) := Lib.hid (VtA.new w1 v _)
        clear hbn
        go_upto_region 2 with (fail)
        generalize w1.alloc (.cells #[.int .u64 v.e, .int .i64 v.t, .int .i64 v.u, .int .i64 v.w] 38) = w2 at *
        generalize w1.heap.size = ga at *
        obtain ⟨q0, q1, q2, q3, q4, q5, q6, q7, q8, q9⟩ := q_2.out
        try simp only at q0 q1 q2 q3 q4 q5 q6 q7 q8 q9
        obtain ⟨a0, a1, a2, a3⟩ := a_2.out
        try simp only at a0 a1 a2 a3
        go_wp2_with fail
        refine (HAW.out _).mono ?_
        rintro e w3 ⟨rfl, hb⟩
        clear q0 q1 q2 q3 q4 q5 q6 q7 q8 q9
        clear a0 a1 a2 a3
        have B_3 := Lib.hid (B_2.out.trans (hb.mono B_2.out.size))
        have q_3 := Lib.hid (q_2.out.on hb)
        have a_3 := Lib.hid (a_2.out.on hb)
        clear B_2 q_2 a_2
        clear hb
        go_wp2_with fail
        go_ret
        exact ⟨rfl, B_3.out⟩
      · rw [hB] at HA0
        generalize akR x v f e n = R at *
        clear y0 y1 y2 hB HA1 hl h0 h64
        go_enter Try.func6, Try.ntmps6
        go_upto_region 1 with (fail)
        generalize w.alloc (.cells #[.int .i64 x.t, .int .i64 x.d, .int .i64 x.r, .int .u64 v.e, .int .i64 v.t, .int .i64 v.u, .int .i64 v.w, .int .i64 f, .int .u64 e, .int .i64 n] 40) = w0 at *
        obtain ⟨q0, q1, q2, q3, q4, q5, q6, q7, q8, q9⟩ := HQ_0.out
        try simp only at q0 q1 q2 q3 q4 q5 q6 q7 q8 q9
        go_wp2_with fail
        refine (HA0.out _).mono ?_
        rintro e w1 ⟨rfl, hb⟩
        clear q0 q1 q2 q3 q4 q5 q6 q7 q8 q9
        have B_1 := Lib.hid (HB_0.out.trans (hb.mono HB_0.out.size))
        have q_1 := Lib.hid (HQ_0.out.on hb)
        clear HB_0 HQ_0
        clear hb
        have hbn : Below w1.heap.size w1 (w1.alloc (.cells #[.int .u64 R.e, .int .i64 R.t, .int .i64 R.u, .int .i64 R.w] 38)) := (Below.refl _ _).alloc (Nat.le_refl _) _
        have B_2 := Lib.hid (B_1.out.trans (hbn.mono B_1.out.size))
        have q_2 := Lib.hid (q_1.out.on hbn)
        clear B_1 q_1
        have a_2 : Hid (VtA (w1.alloc (.cells #[.int .u64 R.e, .int .i64 R.t, .int .i64 R.u, .int .i64 R.w] 38)) w1.heap.size R) := Lib.hid (VtA.new w1 R _)
        clear hbn
        go_upto_region 2 with (fail)
        generalize w1.alloc (.cells #[.int .u64 R.e, .int .i64 R.t, .int .i64 R.u, .int .i64 R.w] 38) = w2 at *
        generalize w1.heap.size = ga at *
        obtain ⟨q0, q1, q2, q3, q4, q5, q6, q7, q8, q9⟩ := q_2.out
        try simp only at q0 q1 q2 q3 q4 q5 q6 q7 q8 q9
        obtain ⟨a0, a1, a2, a3⟩ := a_2.out
        try simp only at a0 a1 a2 a3
        go_wp2_with fail
        refine (HAW.out _).mono ?_
        rintro e w3 ⟨rfl, hb⟩
        clear q0 q1 q2 q3 q4 q5 q6 q7 q8 q9
        clear a0 a1 a2 a3
        have B_3 := Lib.hid (B_2.out.trans (hb.mono B_2.out.size))
        have q_3 := Lib.hid (q_2.out.on hb)
        have a_3 := Lib.hid (a_2.out.on hb)
        clear B_2 q_2 a_2
        clear hb
        go_wp2_with fail
        go_ret
        exact ⟨rfl, B_3.out⟩
    · have d1 : decide (549755813888 < n) = false := decide_eq_false hl
      rcases hB : akB x v f e n with _ | _
      · obtain ⟨r1, r2⟩ := y1 hB
        rw [hB, r1] at HA0
        clear y0 y1 y2 hB HA1 hl h0 h64 r1
        by_cases c1 : v.e < e
        · have e1 : decide (v.e < e) = true := decide_eq_true c1
          by_cases c2 : v.u ≤ n
          · have e2 : decide (v.u ≤ n) = true := decide_eq_true c2
            have e3 : decide (v.w ≤ n) = false := decide_eq_false (fun c3 => r2 ⟨c1, c2, c3⟩)
            clear r2 c1 c2
            go_enter Try.func6, Try.ntmps6
            go_upto_region 1 with (fail)
            generalize w.alloc (.cells #[.int .i64 x.t, .int .i64 x.d, .int .i64 x.r, .int .u64 v.e, .int .i64 v.t, .int .i64 v.u, .int .i64 v.w, .int .i64 f, .int .u64 e, .int .i64 n] 40) = w0 at *
            obtain ⟨q0, q1, q2, q3, q4, q5, q6, q7, q8, q9⟩ := HQ_0.out
            try simp only at q0 q1 q2 q3 q4 q5 q6 q7 q8 q9
            go_wp2_with fail
            refine (HA0.out _).mono ?_
            rintro e w1 ⟨rfl, hb⟩
            clear q0 q1 q2 q3 q4 q5 q6 q7 q8 q9
            have B_1 := Lib.hid (HB_0.out.trans (hb.mono HB_0.out.size))
            have q_1 := Lib.hid (HQ_0.out.on hb)
            clear HB_0 HQ_0
            clear hb
            have hbn : Below w1.heap.size w1 (w1.alloc (.cells #[.int .u64 v.e, .int .i64 v.t, .int .i64 v.u, .int .i64 v.w] 38)) := (Below.refl _ _).alloc (Nat.le_refl _) _
            have B_2 := Lib.hid (B_1.out.trans (hbn.mono B_1.out.size))
            have q_2 := Lib.hid (q_1.out.on hbn)
            clear B_1 q_1
            have a_2 : Hid (VtA (w1.alloc (.cells #[.int .u64 v.e, .int .i64 v.t, .int .i64 v.u, .int .i64 v.w] 38)) w1.heap.size v) := Lib.hid (VtA.new w1 v _)
            clear hbn
            go_upto_region 2 with (fail)
            generalize w1.alloc (.cells #[.int .u64 v.e, .int .i64 v.t, .int .i64 v.u, .int .i64 v.w] 38) = w2 at *
            generalize w1.heap.size = ga at *
            obtain ⟨q0, q1, q2, q3, q4, q5, q6, q7, q8, q9⟩ := q_2.out
            try simp only at q0 q1 q2 q3 q4 q5 q6 q7 q8 q9
            obtain ⟨a0, a1, a2, a3⟩ := a_2.out
            try simp only at a0 a1 a2 a3
            go_wp2_with fail
            refine (HAW.out _).mono ?_
            rintro e w3 ⟨rfl, hb⟩
            clear q0 q1 q2 q3 q4 q5 q6 q7 q8 q9
            clear a0 a1 a2 a3
            have B_3 := Lib.hid (B_2.out.trans (hb.mono B_2.out.size))
            have q_3 := Lib.hid (q_2.out.on hb)
            have a_3 := Lib.hid (a_2.out.on hb)
            clear B_2 q_2 a_2
            clear hb
            go_wp2_with fail
            go_ret
            exact ⟨rfl, B_3.out⟩
          · have e2 : decide (v.u ≤ n) = false := decide_eq_false c2
            clear r2 c1 c2
            go_enter Try.func6, Try.ntmps6
            go_upto_region 1 with (fail)
            generalize w.alloc (.cells #[.int .i64 x.t, .int .i64 x.d, .int .i64 x.r, .int .u64 v.e, .int .i64 v.t, .int .i64 v.u, .int .i64 v.w, .int .i64 f, .int .u64 e, .int .i64 n] 40) = w0 at *
            obtain ⟨q0, q1, q2, q3, q4, q5, q6, q7, q8, q9⟩ := HQ_0.out
            try simp only at q0 q1 q2 q3 q4 q5 q6 q7 q8 q9
            go_wp2_with fail
            refine (HA0.out _).mono ?_
            rintro e w1 ⟨rfl, hb⟩
            clear q0 q1 q2 q3 q4 q5 q6 q7 q8 q9
            have B_1 := Lib.hid (HB_0.out.trans (hb.mono HB_0.out.size))
            have q_1 := Lib.hid (HQ_0.out.on hb)
            clear HB_0 HQ_0
            clear hb
            have hbn : Below w1.heap.size w1 (w1.alloc (.cells #[.int .u64 v.e, .int .i64 v.t, .int .i64 v.u, .int .i64 v.w] 38)) := (Below.refl _ _).alloc (Nat.le_refl _) _
            have B_2 := Lib.hid (B_1.out.trans (hbn.mono B_1.out.size))
            have q_2 := Lib.hid (q_1.out.on hbn)
            clear B_1 q_1
            have a_2 : Hid (VtA (w1.alloc (.cells #[.int .u64 v.e, .int .i64 v.t, .int .i64 v.u, .int .i64 v.w] 38)) w1.heap.size v) := Lib.hid (VtA.new w1 v _)
            clear hbn
            go_upto_region 2 with (fail)
            generalize w1.alloc (.cells #[.int .u64 v.e, .int .i64 v.t, .int .i64 v.u, .int .i64 v.w] 38) = w2 at *
            generalize w1.heap.size = ga at *
            obtain ⟨q0, q1, q2, q3, q4, q5, q6, q7, q8, q9⟩ := q_2.out
            try simp only at q0 q1 q2 q3 q4 q5 q6 q7 q8 q9
            obtain ⟨a0, a1, a2, a3⟩ := a_2.out
            try simp only at a0 a1 a2 a3
            go_wp2_with fail
            refine (HAW.out _).mono ?_
            rintro e w3 ⟨rfl, hb⟩
            clear q0 q1 q2 q3 q4 q5 q6 q7 q8 q9
            clear a0 a1 a2 a3
            have B_3 := Lib.hid (B_2.out.trans (hb.mono B_2.out.size))
            have q_3 := Lib.hid (q_2.out.on hb)
            have a_3 := Lib.hid (a_2.out.on hb)
            clear B_2 q_2 a_2
            clear hb
            go_wp2_with fail
            go_ret
            exact ⟨rfl, B_3.out⟩
        · have e1 : decide (v.e < e) = false := decide_eq_false c1
          clear r2 c1
          go_enter Try.func6, Try.ntmps6
          go_upto_region 1 with (fail)
          generalize w.alloc (.cells #[.int .i64 x.t, .int .i64 x.d, .int .i64 x.r, .int .u64 v.e, .int .i64 v.t, .int .i64 v.u, .int .i64 v.w, .int .i64 f, .int .u64 e, .int .i64 n] 40) = w0 at *
          obtain ⟨q0, q1, q2, q3, q4, q5, q6, q7, q8, q9⟩ := HQ_0.out
          try simp only at q0 q1 q2 q3 q4 q5 q6 q7 q8 q9
          go_wp2_with fail
          refine (HA0.out _).mono ?_
          rintro e w1 ⟨rfl, hb⟩
          clear q0 q1 q2 q3 q4 q5 q6 q7 q8 q9
          have B_1 := Lib.hid (HB_0.out.trans (hb.mono HB_0.out.size))
          have q_1 := Lib.hid (HQ_0.out.on hb)
          clear HB_0 HQ_0
          clear hb
          have hbn : Below w1.heap.size w1 (w1.alloc (.cells #[.int .u64 v.e, .int .i64 v.t, .int .i64 v.u, .int .i64 v.w] 38)) := (Below.refl _ _).alloc (Nat.le_refl _) _
          have B_2 := Lib.hid (B_1.out.trans (hbn.mono B_1.out.size))
          have q_2 := Lib.hid (q_1.out.on hbn)
          clear B_1 q_1
          have a_2 : Hid (VtA (w1.alloc (.cells #[.int .u64 v.e, .int .i64 v.t, .int .i64 v.u, .int .i64 v.w] 38)) w1.heap.size v) := Lib.hid (VtA.new w1 v _)
          clear hbn
          go_upto_region 2 with (fail)
          generalize w1.alloc (.cells #[.int .u64 v.e, .int .i64 v.t, .int .i64 v.u, .int .i64 v.w] 38) = w2 at *
          generalize w1.heap.size = ga at *
          obtain ⟨q0, q1, q2, q3, q4, q5, q6, q7, q8, q9⟩ := q_2.out
          try simp only at q0 q1 q2 q3 q4 q5 q6 q7 q8 q9
          obtain ⟨a0, a1, a2, a3⟩ := a_2.out
          try simp only at a0 a1 a2 a3
          go_wp2_with fail
          refine (HAW.out _).mono ?_
          rintro e w3 ⟨rfl, hb⟩
          clear q0 q1 q2 q3 q4 q5 q6 q7 q8 q9
          clear a0 a1 a2 a3
          have B_3 := Lib.hid (B_2.out.trans (hb.mono B_2.out.size))
          have q_3 := Lib.hid (q_2.out.on hb)
          have a_3 := Lib.hid (a_2.out.on hb)
          clear B_2 q_2 a_2
          clear hb
          go_wp2_with fail
          go_ret
          exact ⟨rfl, B_3.out⟩
      · obtain ⟨r1, a1, a2, a3, b1, b2, b3, hfn, hn0, hxt⟩ := y2 hB (by omega)
        rw [hB, r1] at HA0
        clear y0 y1 y2 hB h0 h64
        have HA2 := Lib.hid (HA1.out ⟨e, f, n + x.t, v.w⟩ f e (n + 1))
        rw [a1, a2, a3] at HA2
        have HA3 := Lib.hid (HA1.out ⟨e, f, n + x.t, v.w⟩ ((f + 1) % 64) (IntKind.u64.wrap (e + 1)) (n + x.t - 1))
        rw [b1, b2] at HA3
        generalize akR x ⟨e, f, n + x.t, v.w⟩ ((f + 1) % 64) (IntKind.u64.wrap (e + 1)) (n + x.t - 1) = Z at *
        clear a1 a2 a3 b1 b2 b3 HA1 r1
        simp only at HA0 HA2 HA3
        have x1 : IntKind.i64.wrap (n + 1) = n + 1 := IntWalk.i64_in _ (by omega)
        have x2 : IntKind.i64.wrap (f + 1) = f + 1 := IntWalk.i64_in _ (by omega)
        have x3 : Int.tmod (f + 1) 64 = (f + 1) % 64 := Int.tmod_eq_emod_of_nonneg (by omega)
        have x4 : IntKind.i64.wrap (n + x.t) = n + x.t := IntWalk.i64_in _ (by omega)
        have x5 : IntKind.i64.wrap (n + x.t - 1) = n + x.t - 1 := IntWalk.i64_in _ (by omega)
        have x6 : IntKind.i64.wrap (n + x.t + 1) = n + 1 + x.t := by rw [IntWalk.i64_in _ (by omega)]; omega
        generalize (f + 1) % 64 = f2 at *
        skip
        go_enter Try.func6, Try.ntmps6
        go_upto_region 1 with (fail)
        generalize w.alloc (.cells #[.int .i64 x.t, .int .i64 x.d, .int .i64 x.r, .int .u64 v.e, .int .i64 v.t, .int .i64 v.u, .int .i64 v.w, .int .i64 f, .int .u64 e, .int .i64 n] 40) = w0 at *
        obtain ⟨q0, q1, q2, q3, q4, q5, q6, q7, q8, q9⟩ := HQ_0.out
        try simp only at q0 q1 q2 q3 q4 q5 q6 q7 q8 q9
        go_wp2_with fail
        refine (HA0.out _).mono ?_
        rintro e w1 ⟨rfl, hb⟩
        clear q0 q1 q2 q3 q4 q5 q6 q7 q8 q9
        have B_1 := Lib.hid (HB_0.out.trans (hb.mono HB_0.out.size))
        have q_1 := Lib.hid (HQ_0.out.on hb)
        clear HB_0 HQ_0
        clear hb
        have hbn : Below w1.heap.size w1 (w1.alloc (.cells #[.int .u64 e, .int .i64 f, .int .i64 (n + x.t), .int .i64 v.w] 38)) := (Below.refl _ _).alloc (Nat.le_refl _) _
        have B_2 := Lib.hid (B_1.out.trans (hbn.mono B_1.out.size))
        have q_2 := Lib.hid (q_1.out.on hbn)
        clear B_1 q_1
        have a_2 : Hid (VtA (w1.alloc (.cells #[.int .u64 e, .int .i64 f, .int .i64 (n + x.t), .int .i64 v.w] 38)) w1.heap.size (⟨e, f, n + x.t, v.w⟩ : Vt)) := Lib.hid (VtA.new w1 (⟨e, f, n + x.t, v.w⟩ : Vt) _)
        clear hbn
        go_upto_region 2 with (fail)
        generalize w1.alloc (.cells #[.int .u64 e, .int .i64 f, .int .i64 (n + x.t), .int .i64 v.w] 38) = w2 at *
        generalize w1.heap.size = ga at *
        obtain ⟨q0, q1, q2, q3, q4, q5, q6, q7, q8, q9⟩ := q_2.out
        try simp only at q0 q1 q2 q3 q4 q5 q6 q7 q8 q9
        go_upto_region 4 with (fail)
        go_cut [73] from 48 to 73 (fun b wx => b = .bool false ∧ w2 = wx)
        case first =>
          go_wp2_with fail
          all_goals first | exact ⟨rfl, rfl⟩ | (go_meet; exact ⟨rfl, rfl⟩)
        case rest =>
          obtain ⟨rfl, rfl⟩ := hcut
          clear q0 q1 q2 q3 q4 q5 q6 q7 q8 q9
          obtain ⟨q0, q1, q2, q3, q4, q5, q6, q7, q8, q9⟩ := q_2.out
          try simp only at q0 q1 q2 q3 q4 q5 q6 q7 q8 q9
          obtain ⟨a0, a1, a2, a3⟩ := a_2.out
          try simp only at a0 a1 a2 a3
          go_wp2_with fail
          refine (HA2.out _).mono ?_
          rintro e w3 ⟨rfl, hb⟩
          clear q0 q1 q2 q3 q4 q5 q6 q7 q8 q9
          clear a0 a1 a2 a3
          have B_3 := Lib.hid (B_2.out.trans (hb.mono B_2.out.size))
          have q_3 := Lib.hid (q_2.out.on hb)
          have a_3 := Lib.hid (a_2.out.on hb)
          clear B_2 q_2 a_2
          clear hb
          have hbn : Below w3.heap.size w3 (w3.alloc (.cells #[.int .u64 e, .int .i64 f, .int .i64 (n + 1 + x.t), .int .i64 v.w] 38)) := (Below.refl _ _).alloc (Nat.le_refl _) _
          have B_4 := Lib.hid (B_3.out.trans (hbn.mono B_3.out.size))
          have q_4 := Lib.hid (q_3.out.on hbn)
          have a_4 := Lib.hid (a_3.out.on hbn)
          clear B_3 q_3 a_3
          have b_4 : Hid (VtA (w3.alloc (.cells #[.int .u64 e, .int .i64 f, .int .i64 (n + 1 + x.t), .int .i64 v.w] 38)) w3.heap.size (⟨e, f, n + 1 + x.t, v.w⟩ : Vt)) := Lib.hid (VtA.new w3 (⟨e, f, n + 1 + x.t, v.w⟩ : Vt) _)
          clear hbn
          go_upto_region 9 with (fail)
          generalize w3.alloc (.cells #[.int .u64 e, .int .i64 f, .int .i64 (n + 1 + x.t), .int .i64 v.w] 38) = w4 at *
          generalize w3.heap.size = gb at *
          obtain ⟨q0, q1, q2, q3, q4, q5, q6, q7, q8, q9⟩ := q_4.out
          try simp only at q0 q1 q2 q3 q4 q5 q6 q7 q8 q9
          obtain ⟨a0, a1, a2, a3⟩ := a_4.out
          try simp only at a0 a1 a2 a3
          go_wp2_with fail
          refine (HA3.out _).mono ?_
          rintro e w5 ⟨rfl, hb⟩
          clear q0 q1 q2 q3 q4 q5 q6 q7 q8 q9
          clear a0 a1 a2 a3
          have B_5 := Lib.hid (B_4.out.trans (hb.mono B_4.out.size))
          have q_5 := Lib.hid (q_4.out.on hb)
          have a_5 := Lib.hid (a_4.out.on hb)
          have b_5 := Lib.hid (b_4.out.on hb)
          clear B_4 q_4 a_4 b_4
          clear hb
          have hbn : Below w5.heap.size w5 (w5.alloc (.cells #[.int .u64 Z.e, .int .i64 Z.t, .int .i64 Z.u, .int .i64 Z.w] 38)) := (Below.refl _ _).alloc (Nat.le_refl _) _
          have B_6 := Lib.hid (B_5.out.trans (hbn.mono B_5.out.size))
          have q_6 := Lib.hid (q_5.out.on hbn)
          have a_6 := Lib.hid (a_5.out.on hbn)
          have b_6 := Lib.hid (b_5.out.on hbn)
          clear B_5 q_5 a_5 b_5
          have z_6 : Hid (VtA (w5.alloc (.cells #[.int .u64 Z.e, .int .i64 Z.t, .int .i64 Z.u, .int .i64 Z.w] 38)) w5.heap.size Z) := Lib.hid (VtA.new w5 Z _)
          clear hbn
          go_upto_region 10 with (fail)
          generalize w5.alloc (.cells #[.int .u64 Z.e, .int .i64 Z.t, .int .i64 Z.u, .int .i64 Z.w] 38) = w6 at *
          generalize w5.heap.size = gz at *
          obtain ⟨a0, a1, a2, a3⟩ := a_6.out
          try simp only at a0 a1 a2 a3
          obtain ⟨b0, b1, b2, b3⟩ := b_6.out
          try simp only at b0 b1 b2 b3
          go_wp2_with fail
          refine (HAW.out _).mono ?_
          rintro e w7 ⟨rfl, hb⟩
          clear a0 a1 a2 a3
          clear b0 b1 b2 b3
          have B_7 := Lib.hid (B_6.out.trans (hb.mono B_6.out.size))
          have q_7 := Lib.hid (q_6.out.on hb)
          have a_7 := Lib.hid (a_6.out.on hb)
          have b_7 := Lib.hid (b_6.out.on hb)
          have z_7 := Lib.hid (z_6.out.on hb)
          clear B_6 q_6 a_6 b_6 z_6
          clear hb
          go_wp2_with fail
          go_ret
          exact ⟨rfl, B_7.out⟩
  · obtain ⟨n1, n2⟩ := HNO.out h0
    rw [n1, n2] at HA0
    have z1 : (akE x v f n != 0) = true := by simpa using h0
    generalize akE x v f n = E at *
    clear HNO HYE HA1 h0 n1 n2 h64
    go_enter Try.func6, Try.ntmps6
    go_upto_region 1 with (fail)
    generalize w.alloc (.cells #[.int .i64 x.t, .int .i64 x.d, .int .i64 x.r, .int .u64 v.e, .int .i64 v.t, .int .i64 v.u, .int .i64 v.w, .int .i64 f, .int .u64 e, .int .i64 n] 40) = w0 at *
    obtain ⟨q0, q1, q2, q3, q4, q5, q6, q7, q8, q9⟩ := HQ_0.out
    try simp only at q0 q1 q2 q3 q4 q5 q6 q7 q8 q9
    go_wp2_with fail
    refine (HA0.out _).mono ?_
    rintro e w1 ⟨rfl, hb⟩
    clear q0 q1 q2 q3 q4 q5 q6 q7 q8 q9
    have B_1 := Lib.hid (HB_0.out.trans (hb.mono HB_0.out.size))
    have q_1 := Lib.hid (HQ_0.out.on hb)
    clear HB_0 HQ_0
    clear hb
    have hbn : Below w1.heap.size w1 (w1.alloc (.cells #[.int .u64 v.e, .int .i64 v.t, .int .i64 v.u, .int .i64 v.w] 38)) := (Below.refl _ _).alloc (Nat.le_refl _) _
    have B_2 := Lib.hid (B_1.out.trans (hbn.mono B_1.out.size))
    have q_2 := Lib.hid (q_1.out.on hbn)
    clear B_1 q_1
    have a_2 : Hid (VtA (w1.alloc (.cells #[.int .u64 v.e, .int .i64 v.t, .int .i64 v.u, .int .i64 v.w] 38)) w1.heap.size v) := Lib.hid (VtA.new w1 v _)
    clear hbn
    go_upto_region 2 with (fail)
    generalize w1.alloc (.cells #[.int .u64 v.e, .int .i64 v.t, .int .i64 v.u, .int .i64 v.w] 38) = w2 at *
    generalize w1.heap.size = ga at *
    obtain ⟨q0, q1, q2, q3, q4, q5, q6, q7, q8, q9⟩ := q_2.out
    try simp only at q0 q1 q2 q3 q4 q5 q6 q7 q8 q9
    obtain ⟨a0, a1, a2, a3⟩ := a_2.out
    try simp only at a0 a1 a2 a3
    go_wp2_with fail
    refine (HAW.out _).mono ?_
    rintro e w3 ⟨rfl, hb⟩
    clear q0 q1 q2 q3 q4 q5 q6 q7 q8 q9
    clear a0 a1 a2 a3
    have B_3 := Lib.hid (B_2.out.trans (hb.mono B_2.out.size))
    have q_3 := Lib.hid (q_2.out.on hb)
    have a_3 := Lib.hid (a_2.out.on hb)
    clear B_2 q_2 a_2
    clear hb
    go_wp2_with fail
    go_ret
    exact ⟨rfl, B_3.out⟩

theorem parOk : ∀ t ∈ (#[40] : Array TypeId).toList, Try.prog.readableRec t = true ∧ t < Try.prog.types.size := by
  have hall : ([40].all fun t => Try.prog.readableRec t && decide (t < Try.prog.types.size)) = true := by kernel_rfl
  intro t ht
  simpa using List.all_eq_true.1 hall t ht

set_option maxRecDepth 100000 in
/-- What the walk gives, for every argument. -/
theorem contract (H : Type) (enc : TypeId × Value → H) (W : World) (base : Nat) (args : Array Value) (ds gs : List (DataW H)) (before : List MemPlace)
    (hval : ∀ (j : Nat) t v, Try.f6.params[j]? = some t → args[j]? = some v → Value.okWide Try.prog W .any base t v)
    (hW : DataW.Whole enc Try.prog Try.f6.params.toList Rows.voteGivesSpec.vars false W args.toList ds gs before) :
    Calls Try.prog 6 args W fun e W' => ∃ v, e = .returned v ∧ Rows.voteGivesSpec.post enc Try.prog Try.f6 false true false false W args v W' := by
  have hW' := hW
  obtain ⟨p, q, hA0, hV, rfl, hfz, hnd⟩ := hW
  have hA : DataW.TrodAll enc Try.prog W 0 (fun _ => true) true Try.f6.params.toList args.toList ds p := hA0
  rw [Try.params6] at hA hval
  obtain ⟨v0, vs0, d0, ds0, p0, q0, hargs, rfl, rfl, h0, r0⟩ := trodAll_cons hA
  obtain ⟨rfl, rfl, rfl⟩ := trodAll_nil r0
  obtain rfl : args = #[v0] := by cases args; simp_all
  obtain ⟨rfl, rfl⟩ := trodVars_none hV
  obtain ⟨x, v, f, e, n, rfl, hx, hv, hf, he, hn⟩ := open_ask (hval 0 40 v0 rfl rfl) h0
  clear hA0
  refine (walk x v f e n W hv he).mono fun e W' ⟨he, hb⟩ => ?_
  subst he
  exact ⟨_, rfl, law_post rfl (by rw [Try.params6]; exact parOk) rfl hW' rfl rfl rfl hb⟩

set_option maxRecDepth 100000 in
theorem lifted (os : Os) (started : os.Started) (H : Type) (enc : TypeId × Value → H) :
    ReturnsInHanded {} Try.checked os 6 .any (Rows.voteGivesSpec.pre6 enc Try.prog Try.f6 Rows.voteGivesRow.domain false) (Rows.voteGivesSpec.post enc Try.prog Try.f6 false true false false) := by
  refine returnsInHanded_of_change (C := Try.checked) own started (by kernel_rfl) Try.func6
    (ChangeSpec.witness6 (enc := enc) (C := Try.checked) false ⟨#[], #[.agg #[.int .i64 0, .int .i64 0, .int .i64 0, .int .u64 0, .int .i64 0, .int .i64 0, .int .i64 0, .int .i64 0, .int .u64 0, .int .i64 0]], []⟩ 8 (by kernel_rfl) (by kernel_rfl) (by kernel_rfl) (by kernel_rfl)) ?_
  intro W base args ds gs before hval hW _ _
  exact contract H enc W base args ds gs before hval hW

/-- THE STATEMENT. -/
theorem said : Rows.VoteGivesSaid :=
  OpenClaim.holds_of_wide 6 Try.f6 rfl rfl rfl rfl rfl rfl rfl ⟨rfl, rfl, rfl, rfl, rfl⟩ rfl rfl rfl rfl rfl (by kernel_rfl) Try.func6 (by kernel_rfl)
    (of_decide_eq_true (by kernel_rfl)) (by unfold Func.isWrapper; first | (rw [if_pos (by decide +kernel)]; kernel_rfl) | (rw [if_neg (by decide +kernel)]; exact ⟨rfl, rfl⟩))
    (fun os started H enc _ => lifted os started H enc)
end Go.Proofs.Ytlefnohcfnlejaa.lawGives
