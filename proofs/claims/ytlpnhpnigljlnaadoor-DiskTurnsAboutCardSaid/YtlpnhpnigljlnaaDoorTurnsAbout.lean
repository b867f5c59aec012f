/-
  DiskTurnsAbout: what is written goes to the two places by turns: the one that has what is read stays: the law returns true for every input.
-/
import Derived.Test.YtlpnhpnigljlnaaDoorLw
import Derived.Test.YtlpnhpnigljlnaaDoorAk
import Derived.Test.YtlpnhpnigljlnaaDoorCards
import Derived.Test.YtlpnhpnigljlnaaDoorTie
namespace Go.Proofs.YtlpnhpnigljlnaaDoor.lawTurnsAbout
open Go.ChangeMaps (open_string)
open Go.Sort Go.ChangeShapes Go.WideShapes Go.ChangeAt Go.RowKit Go.Joins Go.Proofs.YtlpnhpnigljlnaaDoor.Pure Go.Proofs.YtlpnhpnigljlnaaDoor.Crc

set_option maxRecDepth 100000 in
set_option maxHeartbeats 4000000 in
theorem walk (d : Dk) (s : Sv) (c : Nat) (w : World) (ha : d.a.size ≤ maxLen) (hb : d.b.size ≤ maxLen) (hf : FitS s) (hc : (c : Int) ≤ 255) (ht : Tab w) : Calls Tryd.prog 8 #[.agg #[.string d.a, .string d.b], .agg #[.int .u64 s.q, .int .u64 s.b, .int .u64 s.i, .int .u64 s.e, .int .i64 s.u], .int .u8 c] w fun e w' => e = .returned (.bool true) ∧ Below w.heap.size w w' := by
  have HAW := Lib.hid (fun (W : World) (hT : Tab W) => awake_any W hT)
  have HFE := Lib.hid (fun (W : World) => few_any d W ha hb)
  have hDa := few1_size d.a
  have hDb := few1_size d.b
  have eDa : (fewD d).a = few1 d.a := rfl
  have eDb : (fewD d).b = few1 d.b := rfl
  rw [← eDa] at hDa
  rw [← eDb] at hDb
  clear eDa eDb ha hb
  have HD_0 : Hid (DkW ((w.alloc (.cells #[.string d.a, .string d.b] 23)).alloc (.cells #[.int .u64 s.q, .int .u64 s.b, .int .u64 s.i, .int .u64 s.e, .int .i64 s.u] 26)) w.heap.size d) := Lib.hid ((DkW.new w d _).on ((Below.refl _ _).alloc (Nat.le_refl _) _))
  have HS_0 : Hid (SvW ((w.alloc (.cells #[.string d.a, .string d.b] 23)).alloc (.cells #[.int .u64 s.q, .int .u64 s.b, .int .u64 s.i, .int .u64 s.e, .int .i64 s.u] 26)) (w.heap.size + 1) s) := Lib.hid (by
    have h := SvW.new (w.alloc (.cells #[.string d.a, .string d.b] 23)) s 26
    simpa using h)
  have HB_0 : Hid (Below w.heap.size w ((w.alloc (.cells #[.string d.a, .string d.b] 23)).alloc (.cells #[.int .u64 s.q, .int .u64 s.b, .int .u64 s.i, .int .u64 s.e, .int .i64 s.u] 26))) := Lib.hid (((Below.refl _ _).alloc (Nat.le_refl _) _).alloc (by simp) _)
  have HT_0 := Lib.hid (ht.on HB_0.out)
  have htab := ht.pos
  clear ht
  generalize fewD d = D at *
  have HRD := Lib.hid (fun (W : World) (hT : Tab W) => read_any D W (by omega) (by omega) hT)
  have wc1 : IntKind.i64.wrap (c : Int) = (c : Int) := IntWalk.i64_in _ (by omega)
  have HTE := Lib.hid (fun (W : World) (hT : Tab W) => tear_any D s c W (by omega) (by omega) hf (by omega) hT)
  have HAB := Lib.hid (fun h => about (d := D) (s := s) (c := c) h)
  have HNO : Hid (¬ teE D s c = 0 → teR D s c = D) := Lib.hid (fun h => te_no h)
  have HPB := Lib.hid (fun (W : World) (hT : Tab W) => parse_any D.b W (by omega) hT)
  have HPA := Lib.hid (fun (W : World) (hT : Tab W) => parse_any D.a W (by omega) hT)
  generalize hasS D = S at *
  generalize reaE D = E at *
  clear hf hDa hDb
  go_enter Tryd.func8, Tryd.ntmps8
  go_upto_region 1 with (fail)
  generalize (w.alloc (.cells #[.string d.a, .string d.b] 23)).alloc (.cells #[.int .u64 s.q, .int .u64 s.b, .int .u64 s.i, .int .u64 s.e, .int .i64 s.u] 26) = w0 at *
  obtain ⟨⟨d0, d1⟩, df⟩ := HD_0.out
  try simp only at d0 d1
  go_wp2_with fail
  refine (HFE.out _).mono ?_
  rintro e w1 ⟨rfl, hb⟩
  clear d0 d1 df
  have T_1 := Lib.hid (HT_0.out.on hb)
  have B_1 := Lib.hid (HB_0.out.trans (hb.mono HB_0.out.size))
  have d_1 := Lib.hid (HD_0.out.on hb)
  have s_1 := Lib.hid (HS_0.out.on hb)
  clear HT_0 HB_0 HD_0 HS_0
  clear hb
  obtain ⟨⟨d0, d1⟩, df⟩ := d_1.out
  try simp only at d0 d1
  have HD_s := Lib.hid (d_1.out.set D)
  have HS_s := Lib.hid ((s_1.out.apart (p := ⟨w.heap.size, 0, none⟩) (by show w.heap.size ≠ w.heap.size + 1; omega) (.string D.a)).apart (p := ⟨w.heap.size, 1, none⟩) (by show w.heap.size ≠ w.heap.size + 1; omega) (.string D.b))
  have HB_s := Lib.hid (below_set2 B_1.out (Nat.le_refl _) (.string D.a) (.string D.b))
  have HT_s := Lib.hid (tab_set (tab_set T_1.out (p := ⟨w.heap.size, 0, none⟩) (by show ¬ w.heap.size = 0; omega) (.string D.a)) (p := ⟨w.heap.size, 1, none⟩) (by show ¬ w.heap.size = 0; omega) (.string D.b))
  clear d_1 s_1 B_1 T_1
  go_upto_region 2 with (fail)
  generalize (w1.setCell ⟨w.heap.size, 0, none⟩ (.string D.a)).setCell ⟨w.heap.size, 1, none⟩ (.string D.b) = wf at *
  clear d0 d1 df
  have HD_t := Lib.hid HD_s.out.1
  have HS_t := Lib.hid HS_s.out.1
  clear HD_s HS_s HFE htab
  obtain ⟨d0, d1⟩ := HD_t.out
  try simp only at d0 d1
  go_wp2_with fail
  refine (HRD.out _ HT_s.out).mono ?_
  rintro e w2 ⟨rfl, hb⟩
  clear d0 d1
  have T_2 := Lib.hid (HT_s.out.on hb)
  have B_2 := Lib.hid (HB_s.out.trans (hb.mono HB_s.out.size))
  have d_2 := Lib.hid (HD_t.out.on hb)
  have s_2 := Lib.hid (HS_t.out.on hb)
  clear HT_s HB_s HD_t HS_t
  clear hb
  have hbn : Below w2.heap.size w2 (w2.alloc (.cells #[.int .u64 S.q, .int .u64 S.b, .int .u64 S.i, .int .u64 S.e, .int .i64 S.u] 26)) := (Below.refl _ _).alloc (Nat.le_refl _) _
  have T_3 := Lib.hid (T_2.out.on hbn)
  have B_3 := Lib.hid (B_2.out.trans (hbn.mono B_2.out.size))
  have d_3 := Lib.hid (d_2.out.on hbn)
  have s_3 := Lib.hid (s_2.out.on hbn)
  clear T_2 B_2 d_2 s_2
  have a_3 : Hid (SvA (w2.alloc (.cells #[.int .u64 S.q, .int .u64 S.b, .int .u64 S.i, .int .u64 S.e, .int .i64 S.u] 26)) w2.heap.size S) := Lib.hid (SvA.new w2 S _)
  clear hbn
  go_upto_region 3 with (fail)
  generalize w2.alloc (.cells #[.int .u64 S.q, .int .u64 S.b, .int .u64 S.i, .int .u64 S.e, .int .i64 S.u] 26) = w3 at *
  generalize w2.heap.size = ga at *
  by_cases h0 : teE D s c = 0
  · obtain ⟨A, U, e1, u1, p1, p2⟩ := HAB.out h0
    rw [e1, h0] at HTE
    clear HNO HAB e1 h0
    have z3 : (D.a.toList == D.a.toList) = true := by simp
    have z4 : (D.b.toList == D.b.toList) = true := by simp
    rcases A with _ | _
    · simp only [plD, if_false, Bool.false_eq_true] at HTE
      by_cases hE : E = 0
      · obtain ⟨q1, q2⟩ := (p2 hE).2 rfl
        rw [q1, q2] at HPA
        have z5 : (E != 0) = false := by rw [hE]; rfl
        have z7 : (0 == E) = true := by rw [hE]; rfl
        subst hE
        clear p1 p2 q1 q2
        by_cases hu : U = D.b
        · subst hu
          obtain ⟨d0, d1⟩ := d_3.out
          try simp only at d0 d1
          obtain ⟨s0, s1, s2, s3, s4⟩ := s_3.out
          try simp only at s0 s1 s2 s3 s4
          go_wp2_with fail
          refine (HTE.out _ T_3.out).mono ?_
          rintro e w4 ⟨rfl, hb⟩
          clear s0 s1 s2 s3 s4
          clear d0 d1
          have T_4 := Lib.hid (T_3.out.on hb)
          have B_4 := Lib.hid (B_3.out.trans (hb.mono B_3.out.size))
          have d_4 := Lib.hid (d_3.out.on hb)
          have s_4 := Lib.hid (s_3.out.on hb)
          have a_4 := Lib.hid (a_3.out.on hb)
          clear T_3 B_3 d_3 s_3 a_3
          clear hb
          have hbn : Below w4.heap.size w4 (w4.alloc (.cells #[.string D.a, .string D.b] 23)) := (Below.refl _ _).alloc (Nat.le_refl _) _
          have T_5 := Lib.hid (T_4.out.on hbn)
          have B_5 := Lib.hid (B_4.out.trans (hbn.mono B_4.out.size))
          have d_5 := Lib.hid (d_4.out.on hbn)
          have s_5 := Lib.hid (s_4.out.on hbn)
          have a_5 := Lib.hid (a_4.out.on hbn)
          clear T_4 B_4 d_4 s_4 a_4
          have x_5 : Hid (DkA (w4.alloc (.cells #[.string D.a, .string D.b] 23)) w4.heap.size ⟨D.a, D.b⟩) := Lib.hid (DkA.new w4 ⟨D.a, D.b⟩ _)
          clear hbn
          go_upto_region 4 with (fail)
          generalize w4.alloc (.cells #[.string D.a, .string D.b] 23) = w5 at *
          generalize w4.heap.size = gx at *
          obtain ⟨d0, d1⟩ := d_5.out
          try simp only at d0 d1
          obtain ⟨x0, x1⟩ := x_5.out
          try simp only at x0 x1
          go_upto_region 13 with (fail)
          go_wp2_with fail
          refine (HAW.out _ T_5.out).mono ?_
          rintro e w6 ⟨rfl, hb⟩
          clear x0 x1
          clear d0 d1
          have T_6 := Lib.hid (T_5.out.on hb)
          have B_6 := Lib.hid (B_5.out.trans (hb.mono B_5.out.size))
          have d_6 := Lib.hid (d_5.out.on hb)
          have s_6 := Lib.hid (s_5.out.on hb)
          have a_6 := Lib.hid (a_5.out.on hb)
          have x_6 := Lib.hid (x_5.out.on hb)
          clear T_5 B_5 d_5 s_5 a_5 x_5
          clear hb
          go_wp2_with fail
          go_ret
          exact ⟨rfl, B_6.out⟩
        · have z6 : (U.toList == D.b.toList) = false := by rw [beq_eq_false_iff_ne]; exact fun h => hu (text_eq h)
          clear hu
          obtain ⟨d0, d1⟩ := d_3.out
          try simp only at d0 d1
          obtain ⟨s0, s1, s2, s3, s4⟩ := s_3.out
          try simp only at s0 s1 s2 s3 s4
          go_wp2_with fail
          refine (HTE.out _ T_3.out).mono ?_
          rintro e w4 ⟨rfl, hb⟩
          clear s0 s1 s2 s3 s4
          clear d0 d1
          have T_4 := Lib.hid (T_3.out.on hb)
          have B_4 := Lib.hid (B_3.out.trans (hb.mono B_3.out.size))
          have d_4 := Lib.hid (d_3.out.on hb)
          have s_4 := Lib.hid (s_3.out.on hb)
          have a_4 := Lib.hid (a_3.out.on hb)
          clear T_3 B_3 d_3 s_3 a_3
          clear hb
          have hbn : Below w4.heap.size w4 (w4.alloc (.cells #[.string D.a, .string U] 23)) := (Below.refl _ _).alloc (Nat.le_refl _) _
          have T_5 := Lib.hid (T_4.out.on hbn)
          have B_5 := Lib.hid (B_4.out.trans (hbn.mono B_4.out.size))
          have d_5 := Lib.hid (d_4.out.on hbn)
          have s_5 := Lib.hid (s_4.out.on hbn)
          have a_5 := Lib.hid (a_4.out.on hbn)
          clear T_4 B_4 d_4 s_4 a_4
          have x_5 : Hid (DkA (w4.alloc (.cells #[.string D.a, .string U] 23)) w4.heap.size ⟨D.a, U⟩) := Lib.hid (DkA.new w4 ⟨D.a, U⟩ _)
          clear hbn
          go_upto_region 4 with (fail)
          generalize w4.alloc (.cells #[.string D.a, .string U] 23) = w5 at *
          generalize w4.heap.size = gx at *
          obtain ⟨d0, d1⟩ := d_5.out
          try simp only at d0 d1
          obtain ⟨x0, x1⟩ := x_5.out
          try simp only at x0 x1
          go_upto_region 13 with (fail)
          go_wp2_with fail
          refine (HPA.out _ T_5.out).mono ?_
          rintro e w6 ⟨rfl, hb⟩
          clear x0 x1
          clear d0 d1
          have T_6 := Lib.hid (T_5.out.on hb)
          have B_6 := Lib.hid (B_5.out.trans (hb.mono B_5.out.size))
          have d_6 := Lib.hid (d_5.out.on hb)
          have s_6 := Lib.hid (s_5.out.on hb)
          have a_6 := Lib.hid (a_5.out.on hb)
          have x_6 := Lib.hid (x_5.out.on hb)
          clear T_5 B_5 d_5 s_5 a_5 x_5
          clear hb
          have hbn : Below w6.heap.size w6 (w6.alloc (.cells #[.int .u64 S.q, .int .u64 S.b, .int .u64 S.i, .int .u64 S.e, .int .i64 S.u] 26)) := (Below.refl _ _).alloc (Nat.le_refl _) _
          have T_7 := Lib.hid (T_6.out.on hbn)
          have B_7 := Lib.hid (B_6.out.trans (hbn.mono B_6.out.size))
          have d_7 := Lib.hid (d_6.out.on hbn)
          have s_7 := Lib.hid (s_6.out.on hbn)
          have a_7 := Lib.hid (a_6.out.on hbn)
          have x_7 := Lib.hid (x_6.out.on hbn)
          clear T_6 B_6 d_6 s_6 a_6 x_6
          have t_7 : Hid (SvA (w6.alloc (.cells #[.int .u64 S.q, .int .u64 S.b, .int .u64 S.i, .int .u64 S.e, .int .i64 S.u] 26)) w6.heap.size S) := Lib.hid (SvA.new w6 S _)
          clear hbn
          go_upto_region 16 with (fail)
          generalize w6.alloc (.cells #[.int .u64 S.q, .int .u64 S.b, .int .u64 S.i, .int .u64 S.e, .int .i64 S.u] 26) = w7 at *
          generalize w6.heap.size = gt at *
          obtain ⟨t0, t1, t2, t3, t4⟩ := t_7.out
          try simp only at t0 t1 t2 t3 t4
          obtain ⟨a0, a1, a2, a3, a4⟩ := a_7.out
          try simp only at a0 a1 a2 a3 a4
          go_wp2_with fail
          refine (HAW.out _ T_7.out).mono ?_
          rintro e w8 ⟨rfl, hb⟩
          clear t0 t1 t2 t3 t4
          clear a0 a1 a2 a3 a4
          have T_8 := Lib.hid (T_7.out.on hb)
          have B_8 := Lib.hid (B_7.out.trans (hb.mono B_7.out.size))
          have d_8 := Lib.hid (d_7.out.on hb)
          have s_8 := Lib.hid (s_7.out.on hb)
          have a_8 := Lib.hid (a_7.out.on hb)
          have x_8 := Lib.hid (x_7.out.on hb)
          have t_8 := Lib.hid (t_7.out.on hb)
          clear T_7 B_7 d_7 s_7 a_7 x_7 t_7
          clear hb
          go_wp2_with fail
          go_ret
          exact ⟨rfl, B_8.out⟩
      · have := p1 hE
        cases this
    · simp only [plD, if_true] at HTE
      by_cases hE : E = 0
      · obtain ⟨q1, q2⟩ := (p2 hE).1 rfl
        rw [q1, q2] at HPB
        have z5 : (E != 0) = false := by rw [hE]; rfl
        have z7 : (0 == E) = true := by rw [hE]; rfl
        subst hE
        clear p1 p2 q1 q2
        by_cases hu : U = D.a
        · subst hu
          obtain ⟨d0, d1⟩ := d_3.out
          try simp only at d0 d1
          obtain ⟨s0, s1, s2, s3, s4⟩ := s_3.out
          try simp only at s0 s1 s2 s3 s4
          go_wp2_with fail
          refine (HTE.out _ T_3.out).mono ?_
          rintro e w4 ⟨rfl, hb⟩
          clear s0 s1 s2 s3 s4
          clear d0 d1
          have T_4 := Lib.hid (T_3.out.on hb)
          have B_4 := Lib.hid (B_3.out.trans (hb.mono B_3.out.size))
          have d_4 := Lib.hid (d_3.out.on hb)
          have s_4 := Lib.hid (s_3.out.on hb)
          have a_4 := Lib.hid (a_3.out.on hb)
          clear T_3 B_3 d_3 s_3 a_3
          clear hb
          have hbn : Below w4.heap.size w4 (w4.alloc (.cells #[.string D.a, .string D.b] 23)) := (Below.refl _ _).alloc (Nat.le_refl _) _
          have T_5 := Lib.hid (T_4.out.on hbn)
          have B_5 := Lib.hid (B_4.out.trans (hbn.mono B_4.out.size))
          have d_5 := Lib.hid (d_4.out.on hbn)
          have s_5 := Lib.hid (s_4.out.on hbn)
          have a_5 := Lib.hid (a_4.out.on hbn)
          clear T_4 B_4 d_4 s_4 a_4
          have x_5 : Hid (DkA (w4.alloc (.cells #[.string D.a, .string D.b] 23)) w4.heap.size ⟨D.a, D.b⟩) := Lib.hid (DkA.new w4 ⟨D.a, D.b⟩ _)
          clear hbn
          go_upto_region 4 with (fail)
          generalize w4.alloc (.cells #[.string D.a, .string D.b] 23) = w5 at *
          generalize w4.heap.size = gx at *
          obtain ⟨d0, d1⟩ := d_5.out
          try simp only at d0 d1
          obtain ⟨x0, x1⟩ := x_5.out
          try simp only at x0 x1
          go_upto_region 13 with (fail)
          go_wp2_with fail
          refine (HAW.out _ T_5.out).mono ?_
          rintro e w6 ⟨rfl, hb⟩
          clear x0 x1
          clear d0 d1
          have T_6 := Lib.hid (T_5.out.on hb)
          have B_6 := Lib.hid (B_5.out.trans (hb.mono B_5.out.size))
          have d_6 := Lib.hid (d_5.out.on hb)
          have s_6 := Lib.hid (s_5.out.on hb)
          have a_6 := Lib.hid (a_5.out.on hb)
          have x_6 := Lib.hid (x_5.out.on hb)
          clear T_5 B_5 d_5 s_5 a_5 x_5
          clear hb
          go_wp2_with fail
          go_ret
          exact ⟨rfl, B_6.out⟩
        · have z6 : (U.toList == D.a.toList) = false := by rw [beq_eq_false_iff_ne]; exact fun h => hu (text_eq h)
          clear hu
          obtain ⟨d0, d1⟩ := d_3.out
          try simp only at d0 d1
          obtain ⟨s0, s1, s2, s3, s4⟩ := s_3.out
          try simp only at s0 s1 s2 s3 s4
          go_wp2_with fail
          refine (HTE.out _ T_3.out).mono ?_
          rintro e w4 ⟨rfl, hb⟩
          clear s0 s1 s2 s3 s4
          clear d0 d1
          have T_4 := Lib.hid (T_3.out.on hb)
          have B_4 := Lib.hid (B_3.out.trans (hb.mono B_3.out.size))
          have d_4 := Lib.hid (d_3.out.on hb)
          have s_4 := Lib.hid (s_3.out.on hb)
          have a_4 := Lib.hid (a_3.out.on hb)
          clear T_3 B_3 d_3 s_3 a_3
          clear hb
          have hbn : Below w4.heap.size w4 (w4.alloc (.cells #[.string U, .string D.b] 23)) := (Below.refl _ _).alloc (Nat.le_refl _) _
          have T_5 := Lib.hid (T_4.out.on hbn)
          have B_5 := Lib.hid (B_4.out.trans (hbn.mono B_4.out.size))
          have d_5 := Lib.hid (d_4.out.on hbn)
          have s_5 := Lib.hid (s_4.out.on hbn)
          have a_5 := Lib.hid (a_4.out.on hbn)
          clear T_4 B_4 d_4 s_4 a_4
          have x_5 : Hid (DkA (w4.alloc (.cells #[.string U, .string D.b] 23)) w4.heap.size ⟨U, D.b⟩) := Lib.hid (DkA.new w4 ⟨U, D.b⟩ _)
          clear hbn
          go_upto_region 4 with (fail)
          generalize w4.alloc (.cells #[.string U, .string D.b] 23) = w5 at *
          generalize w4.heap.size = gx at *
          obtain ⟨d0, d1⟩ := d_5.out
          try simp only at d0 d1
          obtain ⟨x0, x1⟩ := x_5.out
          try simp only at x0 x1
          go_upto_region 13 with (fail)
          go_wp2_with fail
          refine (HPB.out _ T_5.out).mono ?_
          rintro e w6 ⟨rfl, hb⟩
          clear x0 x1
          clear d0 d1
          have T_6 := Lib.hid (T_5.out.on hb)
          have B_6 := Lib.hid (B_5.out.trans (hb.mono B_5.out.size))
          have d_6 := Lib.hid (d_5.out.on hb)
          have s_6 := Lib.hid (s_5.out.on hb)
          have a_6 := Lib.hid (a_5.out.on hb)
          have x_6 := Lib.hid (x_5.out.on hb)
          clear T_5 B_5 d_5 s_5 a_5 x_5
          clear hb
          have hbn : Below w6.heap.size w6 (w6.alloc (.cells #[.int .u64 S.q, .int .u64 S.b, .int .u64 S.i, .int .u64 S.e, .int .i64 S.u] 26)) := (Below.refl _ _).alloc (Nat.le_refl _) _
          have T_7 := Lib.hid (T_6.out.on hbn)
          have B_7 := Lib.hid (B_6.out.trans (hbn.mono B_6.out.size))
          have d_7 := Lib.hid (d_6.out.on hbn)
          have s_7 := Lib.hid (s_6.out.on hbn)
          have a_7 := Lib.hid (a_6.out.on hbn)
          have x_7 := Lib.hid (x_6.out.on hbn)
          clear T_6 B_6 d_6 s_6 a_6 x_6
          have t_7 : Hid (SvA (w6.alloc (.cells #[.int .u64 S.q, .int .u64 S.b, .int .u64 S.i, .int .u64 S.e, .int .i64 S.u] 26)) w6.heap.size S) := Lib.hid (SvA.new w6 S _)
          clear hbn
          go_upto_region 16 with (fail)
          generalize w6.alloc (.cells #[.int .u64 S.q, .int .u64 S.b, .int .u64 S.i, .int .u64 S.e, .int .i64 S.u] 26) = w7 at *
          generalize w6.heap.size = gt at *
          obtain ⟨t0, t1, t2, t3, t4⟩ := t_7.out
          try simp only at t0 t1 t2 t3 t4
          obtain ⟨a0, a1, a2, a3, a4⟩ := a_7.out
          try simp only at a0 a1 a2 a3 a4
          go_wp2_with fail
          refine (HAW.out _ T_7.out).mono ?_
          rintro e w8 ⟨rfl, hb⟩
          clear t0 t1 t2 t3 t4
          clear a0 a1 a2 a3 a4
          have T_8 := Lib.hid (T_7.out.on hb)
          have B_8 := Lib.hid (B_7.out.trans (hb.mono B_7.out.size))
          have d_8 := Lib.hid (d_7.out.on hb)
          have s_8 := Lib.hid (s_7.out.on hb)
          have a_8 := Lib.hid (a_7.out.on hb)
          have x_8 := Lib.hid (x_7.out.on hb)
          have t_8 := Lib.hid (t_7.out.on hb)
          clear T_7 B_7 d_7 s_7 a_7 x_7 t_7
          clear hb
          go_wp2_with fail
          go_ret
          exact ⟨rfl, B_8.out⟩
      · have z5 : (E != 0) = true := by simpa using hE
        clear p1 p2 hE
        by_cases hu : U = D.a
        · subst hu
          obtain ⟨d0, d1⟩ := d_3.out
          try simp only at d0 d1
          obtain ⟨s0, s1, s2, s3, s4⟩ := s_3.out
          try simp only at s0 s1 s2 s3 s4
          go_wp2_with fail
          refine (HTE.out _ T_3.out).mono ?_
          rintro e w4 ⟨rfl, hb⟩
          clear s0 s1 s2 s3 s4
          clear d0 d1
          have T_4 := Lib.hid (T_3.out.on hb)
          have B_4 := Lib.hid (B_3.out.trans (hb.mono B_3.out.size))
          have d_4 := Lib.hid (d_3.out.on hb)
          have s_4 := Lib.hid (s_3.out.on hb)
          have a_4 := Lib.hid (a_3.out.on hb)
          clear T_3 B_3 d_3 s_3 a_3
          clear hb
          have hbn : Below w4.heap.size w4 (w4.alloc (.cells #[.string D.a, .string D.b] 23)) := (Below.refl _ _).alloc (Nat.le_refl _) _
          have T_5 := Lib.hid (T_4.out.on hbn)
          have B_5 := Lib.hid (B_4.out.trans (hbn.mono B_4.out.size))
          have d_5 := Lib.hid (d_4.out.on hbn)
          have s_5 := Lib.hid (s_4.out.on hbn)
          have a_5 := Lib.hid (a_4.out.on hbn)
          clear T_4 B_4 d_4 s_4 a_4
          have x_5 : Hid (DkA (w4.alloc (.cells #[.string D.a, .string D.b] 23)) w4.heap.size ⟨D.a, D.b⟩) := Lib.hid (DkA.new w4 ⟨D.a, D.b⟩ _)
          clear hbn
          go_upto_region 4 with (fail)
          generalize w4.alloc (.cells #[.string D.a, .string D.b] 23) = w5 at *
          generalize w4.heap.size = gx at *
          obtain ⟨d0, d1⟩ := d_5.out
          try simp only at d0 d1
          obtain ⟨x0, x1⟩ := x_5.out
          try simp only at x0 x1
          go_upto_region 9 with (fail)
          go_wp2_with fail
          refine (HAW.out _ T_5.out).mono ?_
          rintro e w6 ⟨rfl, hb⟩
          clear x0 x1
          clear d0 d1
          have T_6 := Lib.hid (T_5.out.on hb)
          have B_6 := Lib.hid (B_5.out.trans (hb.mono B_5.out.size))
          have d_6 := Lib.hid (d_5.out.on hb)
          have s_6 := Lib.hid (s_5.out.on hb)
          have a_6 := Lib.hid (a_5.out.on hb)
          have x_6 := Lib.hid (x_5.out.on hb)
          clear T_5 B_5 d_5 s_5 a_5 x_5
          clear hb
          go_wp2_with fail
          go_ret
          exact ⟨rfl, B_6.out⟩
        · have z6 : (U.toList == D.a.toList) = false := by rw [beq_eq_false_iff_ne]; exact fun h => hu (text_eq h)
          clear hu
          obtain ⟨d0, d1⟩ := d_3.out
          try simp only at d0 d1
          obtain ⟨s0, s1, s2, s3, s4⟩ := s_3.out
          try simp only at s0 s1 s2 s3 s4
          go_wp2_with fail
          refine (HTE.out _ T_3.out).mono ?_
          rintro e w4 ⟨rfl, hb⟩
          clear s0 s1 s2 s3 s4
          clear d0 d1
          have T_4 := Lib.hid (T_3.out.on hb)
          have B_4 := Lib.hid (B_3.out.trans (hb.mono B_3.out.size))
          have d_4 := Lib.hid (d_3.out.on hb)
          have s_4 := Lib.hid (s_3.out.on hb)
          have a_4 := Lib.hid (a_3.out.on hb)
          clear T_3 B_3 d_3 s_3 a_3
          clear hb
          have hbn : Below w4.heap.size w4 (w4.alloc (.cells #[.string U, .string D.b] 23)) := (Below.refl _ _).alloc (Nat.le_refl _) _
          have T_5 := Lib.hid (T_4.out.on hbn)
          have B_5 := Lib.hid (B_4.out.trans (hbn.mono B_4.out.size))
          have d_5 := Lib.hid (d_4.out.on hbn)
          have s_5 := Lib.hid (s_4.out.on hbn)
          have a_5 := Lib.hid (a_4.out.on hbn)
          clear T_4 B_4 d_4 s_4 a_4
          have x_5 : Hid (DkA (w4.alloc (.cells #[.string U, .string D.b] 23)) w4.heap.size ⟨U, D.b⟩) := Lib.hid (DkA.new w4 ⟨U, D.b⟩ _)
          clear hbn
          go_upto_region 4 with (fail)
          generalize w4.alloc (.cells #[.string U, .string D.b] 23) = w5 at *
          generalize w4.heap.size = gx at *
          obtain ⟨d0, d1⟩ := d_5.out
          try simp only at d0 d1
          obtain ⟨x0, x1⟩ := x_5.out
          try simp only at x0 x1
          go_upto_region 9 with (fail)
          go_wp2_with fail
          refine (HAW.out _ T_5.out).mono ?_
          rintro e w6 ⟨rfl, hb⟩
          clear x0 x1
          clear d0 d1
          have T_6 := Lib.hid (T_5.out.on hb)
          have B_6 := Lib.hid (B_5.out.trans (hb.mono B_5.out.size))
          have d_6 := Lib.hid (d_5.out.on hb)
          have s_6 := Lib.hid (s_5.out.on hb)
          have a_6 := Lib.hid (a_5.out.on hb)
          have x_6 := Lib.hid (x_5.out.on hb)
          clear T_5 B_5 d_5 s_5 a_5 x_5
          clear hb
          go_wp2_with fail
          go_ret
          exact ⟨rfl, B_6.out⟩
  · rw [HNO.out h0] at HTE
    have z1 : (teE D s c != 0) = true := by simpa using h0
    generalize teE D s c = F at *
    have z3 : (D.a.toList == D.a.toList) = true := by simp
    have z4 : (D.b.toList == D.b.toList) = true := by simp
    clear HNO HAB HPA HPB h0
    obtain ⟨d0, d1⟩ := d_3.out
    try simp only at d0 d1
    obtain ⟨s0, s1, s2, s3, s4⟩ := s_3.out
    try simp only at s0 s1 s2 s3 s4
    go_wp2_with fail
    refine (HTE.out _ T_3.out).mono ?_
    rintro e w4 ⟨rfl, hb⟩
    clear s0 s1 s2 s3 s4
    clear d0 d1
    have T_4 := Lib.hid (T_3.out.on hb)
    have B_4 := Lib.hid (B_3.out.trans (hb.mono B_3.out.size))
    have d_4 := Lib.hid (d_3.out.on hb)
    have s_4 := Lib.hid (s_3.out.on hb)
    have a_4 := Lib.hid (a_3.out.on hb)
    clear T_3 B_3 d_3 s_3 a_3
    clear hb
    have hbn : Below w4.heap.size w4 (w4.alloc (.cells #[.string D.a, .string D.b] 23)) := (Below.refl _ _).alloc (Nat.le_refl _) _
    have T_5 := Lib.hid (T_4.out.on hbn)
    have B_5 := Lib.hid (B_4.out.trans (hbn.mono B_4.out.size))
    have d_5 := Lib.hid (d_4.out.on hbn)
    have s_5 := Lib.hid (s_4.out.on hbn)
    have a_5 := Lib.hid (a_4.out.on hbn)
    clear T_4 B_4 d_4 s_4 a_4
    have x_5 : Hid (DkA (w4.alloc (.cells #[.string D.a, .string D.b] 23)) w4.heap.size D) := Lib.hid (DkA.new w4 D _)
    clear hbn
    go_upto_region 4 with (fail)
    generalize w4.alloc (.cells #[.string D.a, .string D.b] 23) = w5 at *
    generalize w4.heap.size = gx at *
    obtain ⟨d0, d1⟩ := d_5.out
    try simp only at d0 d1
    obtain ⟨x0, x1⟩ := x_5.out
    try simp only at x0 x1
    go_wp2_with fail
    refine (HAW.out _ T_5.out).mono ?_
    rintro e w6 ⟨rfl, hb⟩
    clear x0 x1
    clear d0 d1
    have T_6 := Lib.hid (T_5.out.on hb)
    have B_6 := Lib.hid (B_5.out.trans (hb.mono B_5.out.size))
    have d_6 := Lib.hid (d_5.out.on hb)
    have s_6 := Lib.hid (s_5.out.on hb)
    have a_6 := Lib.hid (a_5.out.on hb)
    have x_6 := Lib.hid (x_5.out.on hb)
    clear T_5 B_5 d_5 s_5 a_5 x_5
    clear hb
    go_wp2_with fail
    go_ret
    exact ⟨rfl, B_6.out⟩

theorem parOk : ∀ t ∈ (#[23, 26, 5] : Array TypeId).toList, Tryd.prog.readableRec t = true ∧ t < Tryd.prog.types.size := by
  have hall : ([23, 26, 5].all fun t => Tryd.prog.readableRec t && decide (t < Tryd.prog.types.size)) = true := by kernel_rfl
  intro t ht
  simpa using List.all_eq_true.1 hall t ht

/-- What the walk gives, for every argument and every world that holds the table. -/
theorem contract (H : Type) (enc : TypeId × Value → H) (W : World) (base : Nat) (args : Array Value) (ds gs : List (DataW H)) (before : List MemPlace)
    (hval : ∀ (j : Nat) t v, Tryd.f8.params[j]? = some t → args[j]? = some v → Value.okWide Tryd.prog W .any base t v)
    (hW : DataW.Whole enc Tryd.prog Tryd.f8.params.toList Rows.diskTurnsAboutSpec.vars false W args.toList ds gs before) (hL : laidMetH Tryd.prog Rows.diskTurnsAboutRow.laid W) :
    Calls Tryd.prog 8 args W fun e W' => ∃ v, e = .returned v ∧ Rows.diskTurnsAboutSpec.post enc Tryd.prog Tryd.f8 false true false false W args v W' := by
  have hW' := hW
  obtain ⟨p, q, hA0, hV, rfl, hfz, hnd⟩ := hW
  have hA : DataW.TrodAll enc Tryd.prog W 0 (fun _ => true) true Tryd.f8.params.toList args.toList ds p := hA0
  rw [Tryd.params8] at hA hval
  obtain ⟨v0, vs0, d0, ds0, p0, q0, hargs, rfl, rfl, h0, r0⟩ := trodAll_cons hA
  obtain ⟨v1, vs1, d1, ds1, p1, q1, rfl, rfl, rfl, h1, r1⟩ := trodAll_cons r0
  obtain ⟨v2, vs2, d2, ds2, p2, q2, rfl, rfl, rfl, h2, r2⟩ := trodAll_cons r1
  obtain ⟨rfl, rfl, rfl⟩ := trodAll_nil r2
  obtain rfl : args = #[v0, v1, v2] := by cases args; simp_all
  obtain ⟨rfl, rfl⟩ := trodVars_none hV
  obtain ⟨d, rfl, ha, hb⟩ := open_disk (hval 0 23 v0 rfl rfl) h0
  obtain ⟨s, rfl, hf⟩ := open_saved (hval 1 26 v1 rfl rfl) h1
  obtain ⟨c, rfl, hc⟩ := open_nat Tryd.underlying5 (m := 255) (fun a => u8_of_wf) (hval 2 5 v2 rfl rfl) h2
  clear hA0
  refine (walk d s c W ha hb hf hc (tab_of_laid hL)).mono fun e W' ⟨he, hb⟩ => ?_
  subst he
  exact ⟨_, rfl, law_post rfl (by rw [Tryd.params8]; exact parOk) rfl hW' rfl rfl rfl hb⟩

theorem laid_met (os : Os) : laidMet Tryd.prog Rows.diskTurnsAboutRow.laid ((laidWorld os).forCall (fun _ _ => 0) ⟨#[], #[.agg #[.string ⟨#[]⟩, .string ⟨#[]⟩], .agg #[.int .u64 0, .int .u64 0, .int .u64 0, .int .u64 0, .int .i64 0], .int .u8 0], []⟩).memory :=
  laidMet_of_run' 8 (by kernel_rfl) (by kernel_rfl)
theorem reads (os : Os) {H : Type} (enc : TypeId × Value → H) : ∃ places, DataW.whole enc Tryd.prog ((laidWorld os).forCall (fun _ _ => 0) ⟨#[], #[.agg #[.string ⟨#[]⟩, .string ⟨#[]⟩], .agg #[.int .u64 0, .int .u64 0, .int .u64 0, .int .u64 0, .int .i64 0], .int .u8 0], []⟩).memory Tryd.f8.params.toList Rows.diskTurnsAboutSpec.vars false (#[.agg #[.string ⟨#[]⟩, .string ⟨#[]⟩], .agg #[.int .u64 0, .int .u64 0, .int .u64 0, .int .u64 0, .int .i64 0], .int .u8 0] : Array Value).toList 8 = some ([.agg [.lit (.string []), .lit (.string [])], .agg [.lit (.int .u64 0), .lit (.int .u64 0), .lit (.int .u64 0), .lit (.int .u64 0), .lit (.int .i64 0)], .lit (.int .u8 0)], [], places) :=
  ⟨[], by kernel_rfl⟩

set_option maxRecDepth 100000 in
theorem lifted (os : Os) (started : os.Started) (H : Type) (enc : TypeId × Value → H) (F : Stop.Interp) :
    ReturnsInHanded {} Tryd.checked os 8 .any ((OpenSpec.ofChange Rows.diskTurnsAboutSpec).preRow enc Tryd.prog Tryd.f8 Rows.diskTurnsAboutRow.domain false Rows.diskTurnsAboutRow.laid) (((OpenSpec.ofChange Rows.diskTurnsAboutSpec).at F).post enc Tryd.prog Tryd.f8 false true false false) := by
  obtain ⟨places, hx⟩ := reads os enc
  refine returnsInHanded_of_row (C := Tryd.checked) (s := OpenSpec.ofChange Rows.diskTurnsAboutSpec) own started (by kernel_rfl) Tryd.func8
    (witness_row_at (enc := enc) (C := Tryd.checked) false (laidWorld os) #[.agg #[.string ⟨#[]⟩, .string ⟨#[]⟩], .agg #[.int .u64 0, .int .u64 0, .int .u64 0, .int .u64 0, .int .i64 0], .int .u8 0] rfl (by kernel_rfl) (by kernel_rfl) (by kernel_rfl)
      (OpenSpec.preRow_of_cond 8 hx (by kernel_rfl) (fun k hk => by cases hk) (by kernel_rfl) (laid_met os))) ?_
  intro W base args ds gs before hval hW _ _ _ hL _ _
  exact contract H enc W base args ds gs before hval hW hL

theorem said : Rows.DiskTurnsAboutSaid :=
  OpenClaim.holds_of_cond 8 Tryd.f8 rfl rfl rfl rfl rfl rfl rfl ⟨rfl, rfl, rfl, rfl, rfl⟩ rfl rfl rfl rfl rfl (by kernel_rfl) Tryd.func8 (by kernel_rfl)
    (of_decide_eq_true (by kernel_rfl)) (by unfold Func.isWrapper; first | (rw [if_pos (by decide +kernel)]; kernel_rfl) | (rw [if_neg (by decide +kernel)]; exact ⟨rfl, rfl⟩))
    (fun os started H enc _ F => by rw [OpenClaim.pre_eq_preRow]; exact lifted os started H enc F)

/-- No parameter wants a stand-in; the program's own looks are off. -/
theorem plain (f : FuncId) (fn : Func) (hf : Tryd.pinned.checked.prog.funcNamed "tattle/tattlelaw16.DiskTurnsAbout" = some f) (hfn : Tryd.pinned.checked.prog.funcs[f]? = some fn) :
    false = Tryd.pinned.checked.prog.looks [] ∧ ∀ (j : Nat) t, fn.params[j]? = some t → Tryd.pinned.checked.prog.wantsStandIn t = false := by
  obtain rfl : f = 8 := Option.some.inj ((show Tryd.prog.funcNamed "tattle/tattlelaw16.DiskTurnsAbout" = some 8 by kernel_rfl).symm.trans hf) |>.symm
  obtain rfl : fn = Tryd.f8 := (Option.some.inj (Tryd.func8.symm.trans hfn)).symm
  refine ⟨by kernel_rfl, fun j t ht => ?_⟩
  rw [Tryd.params8] at ht
  have hm : t ∈ [23, 26, 5] := by simpa using Array.mem_of_getElem? ht
  have hall : ([23, 26, 5].all fun u => !Tryd.prog.wantsStandIn u) = true := by kernel_rfl
  exact (show Tryd.prog.wantsStandIn t = false by simpa using List.all_eq_true.1 hall t hm)

/-- THE CARD. -/
theorem card : Rows.DiskTurnsAboutCardSaid :=
  Claim7.holds_tied_plain_at .later [] _ _ _ _ said (fun _ h => by cases h) (by kernel_rfl) (fun _ h => by cases h) diskTurnsAbout_row_tie rfl ⟨rfl, rfl⟩ (by kernel_rfl) rfl plain (by kernel_rfl)
end Go.Proofs.YtlpnhpnigljlnaaDoor.lawTurnsAbout
