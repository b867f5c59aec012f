/-
  DiskTears: torn anywhere ahead of its end, what is read is what was read; else it is what is written: the law returns true for every input.
-/
import Derived.Test.YtlpnhpnigljlnaaDoorLw
import Derived.Test.YtlpnhpnigljlnaaDoorAk
import Derived.Test.YtlpnhpnigljlnaaDoorCards
import Derived.Test.YtlpnhpnigljlnaaDoorTie
namespace Go.Proofs.YtlpnhpnigljlnaaDoor.lawTears
open Go.ChangeMaps (open_string)
open Go.Sort Go.ChangeShapes Go.WideShapes Go.ChangeAt Go.RowKit Go.Joins Go.Proofs.YtlpnhpnigljlnaaDoor.Pure Go.Proofs.YtlpnhpnigljlnaaDoor.Crc

set_option maxRecDepth 100000 in
set_option maxHeartbeats 4000000 in
theorem walk (d : Dk) (s : Sv) (c : Nat) (w : World) (ha : d.a.size ≤ maxLen) (hb : d.b.size ≤ maxLen) (hf : FitS s) (hc : (c : Int) ≤ 255) (ht : Tab w) : Calls Tryd.prog 5 #[.agg #[.string d.a, .string d.b], .agg #[.int .u64 s.q, .int .u64 s.b, .int .u64 s.i, .int .u64 s.e, .int .i64 s.u], .int .u8 c] w fun e w' => e = .returned (.bool true) ∧ Below w.heap.size w w' := by
  have HAW := Lib.hid (fun (W : World) (hT : Tab W) => awake_any W hT)
  have HFE := Lib.hid (fun (W : World) => few_any d W ha hb)
  have hDa := few1_size d.a
  have hDb := few1_size d.b
  have eDa : (fewD d).a = few1 d.a := rfl
  have eDb : (fewD d).b = few1 d.b := rfl
  rw [← eDa] at hDa
  rw [← eDb] at hDb
  clear eDa eDb ha hb
  have HD_0 : Hid (DkW ((w.alloc (.cells #[.string d.a, .string d.b] 23)).alloc (.cells #[.int .u64 s.q, .int .u64 s.b, .int .u64 s.i, .int .u64 s.e, .int .i64 s.u] 26)) w.heap.size d) := Lib.hid ((DkW.new w d _).on ((Below.refl _ _).alloc (Nat.le_refl _) _))
  have HS_0 : Hid (SvW ((w.alloc (.cells #[.string d.a, .string d.b] 23)).alloc (.cells #[.int .u64 s.q, .int .u64 s.b, .int .u64 s.i, .int .u64 s.e, .int .i64 s.u] 26)) (w.heap.size + 1) s) := Lib.hid (by
    have h := SvW.new (w.alloc (.cells #[.string d.a, .string d.b] 23)) s 26
    simpa using h)
  have HB_0 : Hid (Below w.heap.size w ((w.alloc (.cells #[.string d.a, .string d.b] 23)).alloc (.cells #[.int .u64 s.q, .int .u64 s.b, .int .u64 s.i, .int .u64 s.e, .int .i64 s.u] 26))) := Lib.hid (((Below.refl _ _).alloc (Nat.le_refl _) _).alloc (by simp) _)
  have HT_0 := Lib.hid (ht.on HB_0.out)
  have htab := ht.pos
  clear ht
  generalize fewD d = D at *
  have HRD := Lib.hid (fun (W : World) (hT : Tab W) => read_any D W (by omega) (by omega) hT)
  have wc1 : IntKind.i64.wrap (c : Int) = (c : Int) := IntWalk.i64_in _ (by omega)
  have HTE := Lib.hid (fun (W : World) (hT : Tab W) => tear_any D s c W (by omega) (by omega) hf (by omega) hT)
  have HWR := Lib.hid (fun (W : World) (hT : Tab W) => write_any D s W (by omega) (by omega) hf hT)
  have HST := Lib.hid (fun h => step (d := D) (s := s) (c := c) hf h)
  have HNO : Hid (¬ teE D s c = 0 → teR D s c = D ∧ teR D s 9223372036854775807 = D ∧ teE D s 9223372036854775807 = teE D s c) := Lib.hid (fun h => by
    have e := te_same D s (c := c) (m := 9223372036854775807) (by omega) (by decide)
    exact ⟨te_no h, te_no (by rw [← e]; exact h), e.symm⟩)
  have HRX := Lib.hid (fun (x : Dk) (hx : x.a.size ≤ 200) (hy : x.b.size ≤ 200) (W : World) (hT : Tab W) => read_any x W (by omega) (by omega) hT)
  generalize hS : hasS D = S at *
  generalize hE : reaE D = E at *
  clear hS hE hf
  go_enter Tryd.func5, Tryd.ntmps5
  go_upto_region 1 with (fail)
  generalize (w.alloc (.cells #[.string d.a, .string d.b] 23)).alloc (.cells #[.int .u64 s.q, .int .u64 s.b, .int .u64 s.i, .int .u64 s.e, .int .i64 s.u] 26) = w0 at *
  obtain ⟨⟨d0, d1⟩, df⟩ := HD_0.out
  try simp only at d0 d1
  go_wp2_with fail
  refine (HFE.out _).mono ?_
  rintro e w1 ⟨rfl, hb⟩
  clear d0 d1 df
  have T_1 := Lib.hid (HT_0.out.on hb)
  have B_1 := Lib.hid (HB_0.out.trans (hb.mono HB_0.out.size))
  have d_1 := Lib.hid (HD_0.out.on hb)
  have s_1 := Lib.hid (HS_0.out.on hb)
  clear HT_0 HB_0 HD_0 HS_0
  clear hb
  obtain ⟨⟨d0, d1⟩, df⟩ := d_1.out
  try simp only at d0 d1
  have HD_s := Lib.hid (d_1.out.set D)
  have HS_s := Lib.hid ((s_1.out.apart (p := ⟨w.heap.size, 0, none⟩) (by show w.heap.size ≠ w.heap.size + 1; omega) (.string D.a)).apart (p := ⟨w.heap.size, 1, none⟩) (by show w.heap.size ≠ w.heap.size + 1; omega) (.string D.b))
  have HB_s := Lib.hid (below_set2 B_1.out (Nat.le_refl _) (.string D.a) (.string D.b))
  have HT_s := Lib.hid (tab_set (tab_set T_1.out (p := ⟨w.heap.size, 0, none⟩) (by show ¬ w.heap.size = 0; omega) (.string D.a)) (p := ⟨w.heap.size, 1, none⟩) (by show ¬ w.heap.size = 0; omega) (.string D.b))
  clear d_1 s_1 B_1 T_1
  go_upto_region 2 with (fail)
  generalize (w1.setCell ⟨w.heap.size, 0, none⟩ (.string D.a)).setCell ⟨w.heap.size, 1, none⟩ (.string D.b) = wf at *
  clear d0 d1 df
  have HD_t := Lib.hid HD_s.out.1
  have HS_t := Lib.hid HS_s.out.1
  clear HD_s HS_s HFE htab
  obtain ⟨d0, d1⟩ := HD_t.out
  try simp only at d0 d1
  go_wp2_with fail
  refine (HRD.out _ HT_s.out).mono ?_
  rintro e w2 ⟨rfl, hb⟩
  clear d0 d1
  have T_2 := Lib.hid (HT_s.out.on hb)
  have B_2 := Lib.hid (HB_s.out.trans (hb.mono HB_s.out.size))
  have d_2 := Lib.hid (HD_t.out.on hb)
  have s_2 := Lib.hid (HS_t.out.on hb)
  clear HT_s HB_s HD_t HS_t
  clear hb
  have hbn : Below w2.heap.size w2 (w2.alloc (.cells #[.int .u64 S.q, .int .u64 S.b, .int .u64 S.i, .int .u64 S.e, .int .i64 S.u] 26)) := (Below.refl _ _).alloc (Nat.le_refl _) _
  have T_3 := Lib.hid (T_2.out.on hbn)
  have B_3 := Lib.hid (B_2.out.trans (hbn.mono B_2.out.size))
  have d_3 := Lib.hid (d_2.out.on hbn)
  have s_3 := Lib.hid (s_2.out.on hbn)
  clear T_2 B_2 d_2 s_2
  have a_3 : Hid (SvA (w2.alloc (.cells #[.int .u64 S.q, .int .u64 S.b, .int .u64 S.i, .int .u64 S.e, .int .i64 S.u] 26)) w2.heap.size S) := Lib.hid (SvA.new w2 S _)
  clear hbn
  go_upto_region 3 with (fail)
  generalize w2.alloc (.cells #[.int .u64 S.q, .int .u64 S.b, .int .u64 S.i, .int .u64 S.e, .int .i64 S.u] 26) = w3 at *
  generalize w2.heap.size = ga at *
  by_cases h0 : teE D s c = 0
  · obtain ⟨A, U, T, e1, e2, e3, u1, t1, t2, ⟨_, n1, n2⟩, ho, hq0, hq1⟩ := HST.out h0
    have wq : IntKind.u64.wrap (S.q + 1) = S.q + 1 := IntWalk.u64_in _ (by omega)
    rw [e1, h0] at HTE
    rw [e2, e3] at HWR
    clear HST HNO e1 e2 e3 h0 t2 hq0 hq1
    rcases A with _ | _
    · have n1 : hasS ⟨D.a, T⟩ = ⟨S.q + 1, s.b, s.i, s.e, s.u⟩ := n1
      have n2 : reaE ⟨D.a, T⟩ = 0 := n2
      have HRT := Lib.hid (HRX.out ⟨D.a, T⟩ hDa (by show T.size ≤ 200; omega))
      rw [n1, n2] at HRT
      simp only [plD, if_false, Bool.false_eq_true] at HTE HWR HRT
      have z5 : (D.a.toList == D.a.toList) = true := by simp
      have z6 : (D.b.toList == D.b.toList) = true := by simp
      rcases ho with rfl | ⟨hne, _, m1, m2⟩
      · have z1 : (U.toList == U.toList) = true := by simp
        clear HRX n1 n2
        obtain ⟨d0, d1⟩ := d_3.out
        try simp only at d0 d1
        obtain ⟨s0, s1, s2, s3, s4⟩ := s_3.out
        try simp only at s0 s1 s2 s3 s4
        go_wp2_with fail
        refine (HTE.out _ T_3.out).mono ?_
        rintro e w4 ⟨rfl, hb⟩
        clear s0 s1 s2 s3 s4
        clear d0 d1
        have T_4 := Lib.hid (T_3.out.on hb)
        have B_4 := Lib.hid (B_3.out.trans (hb.mono B_3.out.size))
        have d_4 := Lib.hid (d_3.out.on hb)
        have s_4 := Lib.hid (s_3.out.on hb)
        have a_4 := Lib.hid (a_3.out.on hb)
        clear T_3 B_3 d_3 s_3 a_3
        clear hb
        have hbn : Below w4.heap.size w4 (w4.alloc (.cells #[.string D.a, .string U] 23)) := (Below.refl _ _).alloc (Nat.le_refl _) _
        have T_5 := Lib.hid (T_4.out.on hbn)
        have B_5 := Lib.hid (B_4.out.trans (hbn.mono B_4.out.size))
        have d_5 := Lib.hid (d_4.out.on hbn)
        have s_5 := Lib.hid (s_4.out.on hbn)
        have a_5 := Lib.hid (a_4.out.on hbn)
        clear T_4 B_4 d_4 s_4 a_4
        have x_5 : Hid (DkA (w4.alloc (.cells #[.string D.a, .string U] 23)) w4.heap.size ⟨D.a, U⟩) := Lib.hid (DkA.new w4 ⟨D.a, U⟩ _)
        clear hbn
        go_upto_region 4 with (fail)
        generalize w4.alloc (.cells #[.string D.a, .string U] 23) = w5 at *
        generalize w4.heap.size = gx at *
        obtain ⟨d0, d1⟩ := d_5.out
        try simp only at d0 d1
        obtain ⟨s0, s1, s2, s3, s4⟩ := s_5.out
        try simp only at s0 s1 s2 s3 s4
        go_wp2_with fail
        refine (HWR.out _ T_5.out).mono ?_
        rintro e w6 ⟨rfl, hb⟩
        clear s0 s1 s2 s3 s4
        clear d0 d1
        have T_6 := Lib.hid (T_5.out.on hb)
        have B_6 := Lib.hid (B_5.out.trans (hb.mono B_5.out.size))
        have d_6 := Lib.hid (d_5.out.on hb)
        have s_6 := Lib.hid (s_5.out.on hb)
        have a_6 := Lib.hid (a_5.out.on hb)
        have x_6 := Lib.hid (x_5.out.on hb)
        clear T_5 B_5 d_5 s_5 a_5 x_5
        clear hb
        have hbn : Below w6.heap.size w6 (w6.alloc (.cells #[.string D.a, .string U] 23)) := (Below.refl _ _).alloc (Nat.le_refl _) _
        have T_7 := Lib.hid (T_6.out.on hbn)
        have B_7 := Lib.hid (B_6.out.trans (hbn.mono B_6.out.size))
        have d_7 := Lib.hid (d_6.out.on hbn)
        have s_7 := Lib.hid (s_6.out.on hbn)
        have a_7 := Lib.hid (a_6.out.on hbn)
        have x_7 := Lib.hid (x_6.out.on hbn)
        clear T_6 B_6 d_6 s_6 a_6 x_6
        have y_7 : Hid (DkA (w6.alloc (.cells #[.string D.a, .string U] 23)) w6.heap.size ⟨D.a, U⟩) := Lib.hid (DkA.new w6 ⟨D.a, U⟩ _)
        clear hbn
        go_upto_region 5 with (fail)
        generalize w6.alloc (.cells #[.string D.a, .string U] 23) = w7 at *
        generalize w6.heap.size = gy at *
        obtain ⟨x0, x1⟩ := x_7.out
        try simp only at x0 x1
        go_wp2_with fail
        refine (HRT.out _ T_7.out).mono ?_
        rintro e w8 ⟨rfl, hb⟩
        clear x0 x1
        have T_8 := Lib.hid (T_7.out.on hb)
        have B_8 := Lib.hid (B_7.out.trans (hb.mono B_7.out.size))
        have d_8 := Lib.hid (d_7.out.on hb)
        have s_8 := Lib.hid (s_7.out.on hb)
        have a_8 := Lib.hid (a_7.out.on hb)
        have x_8 := Lib.hid (x_7.out.on hb)
        have y_8 := Lib.hid (y_7.out.on hb)
        clear T_7 B_7 d_7 s_7 a_7 x_7 y_7
        clear hb
        have hbn : Below w8.heap.size w8 (w8.alloc (.cells #[.int .u64 (S.q + 1), .int .u64 s.b, .int .u64 s.i, .int .u64 s.e, .int .i64 s.u] 26)) := (Below.refl _ _).alloc (Nat.le_refl _) _
        have T_9 := Lib.hid (T_8.out.on hbn)
        have B_9 := Lib.hid (B_8.out.trans (hbn.mono B_8.out.size))
        have d_9 := Lib.hid (d_8.out.on hbn)
        have s_9 := Lib.hid (s_8.out.on hbn)
        have a_9 := Lib.hid (a_8.out.on hbn)
        have x_9 := Lib.hid (x_8.out.on hbn)
        have y_9 := Lib.hid (y_8.out.on hbn)
        clear T_8 B_8 d_8 s_8 a_8 x_8 y_8
        have n_9 : Hid (SvA (w8.alloc (.cells #[.int .u64 (S.q + 1), .int .u64 s.b, .int .u64 s.i, .int .u64 s.e, .int .i64 s.u] 26)) w8.heap.size ⟨S.q + 1, s.b, s.i, s.e, s.u⟩) := Lib.hid (SvA.new w8 ⟨S.q + 1, s.b, s.i, s.e, s.u⟩ _)
        clear hbn
        go_upto_region 8 with (fail)
        generalize w8.alloc (.cells #[.int .u64 (S.q + 1), .int .u64 s.b, .int .u64 s.i, .int .u64 s.e, .int .i64 s.u] 26) = w9 at *
        generalize w8.heap.size = gn at *
        obtain ⟨y0, y1⟩ := y_9.out
        try simp only at y0 y1
        go_wp2_with fail
        refine (HRT.out _ T_9.out).mono ?_
        rintro e w10 ⟨rfl, hb⟩
        clear y0 y1
        have T_10 := Lib.hid (T_9.out.on hb)
        have B_10 := Lib.hid (B_9.out.trans (hb.mono B_9.out.size))
        have d_10 := Lib.hid (d_9.out.on hb)
        have s_10 := Lib.hid (s_9.out.on hb)
        have a_10 := Lib.hid (a_9.out.on hb)
        have x_10 := Lib.hid (x_9.out.on hb)
        have y_10 := Lib.hid (y_9.out.on hb)
        have n_10 := Lib.hid (n_9.out.on hb)
        clear T_9 B_9 d_9 s_9 a_9 x_9 y_9 n_9
        clear hb
        have hbn : Below w10.heap.size w10 (w10.alloc (.cells #[.int .u64 (S.q + 1), .int .u64 s.b, .int .u64 s.i, .int .u64 s.e, .int .i64 s.u] 26)) := (Below.refl _ _).alloc (Nat.le_refl _) _
        have T_11 := Lib.hid (T_10.out.on hbn)
        have B_11 := Lib.hid (B_10.out.trans (hbn.mono B_10.out.size))
        have d_11 := Lib.hid (d_10.out.on hbn)
        have s_11 := Lib.hid (s_10.out.on hbn)
        have a_11 := Lib.hid (a_10.out.on hbn)
        have x_11 := Lib.hid (x_10.out.on hbn)
        have y_11 := Lib.hid (y_10.out.on hbn)
        have n_11 := Lib.hid (n_10.out.on hbn)
        clear T_10 B_10 d_10 s_10 a_10 x_10 y_10 n_10
        have t_11 : Hid (SvA (w10.alloc (.cells #[.int .u64 (S.q + 1), .int .u64 s.b, .int .u64 s.i, .int .u64 s.e, .int .i64 s.u] 26)) w10.heap.size ⟨S.q + 1, s.b, s.i, s.e, s.u⟩) := Lib.hid (SvA.new w10 ⟨S.q + 1, s.b, s.i, s.e, s.u⟩ _)
        clear hbn
        go_upto_region 9 with (fail)
        generalize w10.alloc (.cells #[.int .u64 (S.q + 1), .int .u64 s.b, .int .u64 s.i, .int .u64 s.e, .int .i64 s.u] 26) = w11 at *
        generalize w10.heap.size = gt at *
        obtain ⟨s0, s1, s2, s3, s4⟩ := s_11.out
        try simp only at s0 s1 s2 s3 s4
        obtain ⟨a0, a1, a2, a3, a4⟩ := a_11.out
        try simp only at a0 a1 a2 a3 a4
        go_upto_region 9 with (fail)
        have hbn : Below w11.heap.size w11 (w11.alloc (.cells #[.int .u64 s.q, .int .u64 s.b, .int .u64 s.i, .int .u64 s.e, .int .i64 s.u] 26)) := (Below.refl _ _).alloc (Nat.le_refl _) _
        clear a0 a1 a2 a3 a4
        have HWN : Hid (SvW (w11.alloc (.cells #[.int .u64 s.q, .int .u64 s.b, .int .u64 s.i, .int .u64 s.e, .int .i64 s.u] 26)) w11.heap.size s) := Lib.hid (SvW.new w11 s _)
        have HAN := Lib.hid (a_11.out.on hbn)
        go_upto_region 10 with (fail)
        generalize w11.alloc (.cells #[.int .u64 s.q, .int .u64 s.b, .int .u64 s.i, .int .u64 s.e, .int .i64 s.u] 26) = wn at *
        clear s0 s1 s2 s3 s4
        obtain ⟨a0, a1, a2, a3, a4⟩ := HAN.out
        obtain ⟨⟨k0, k1, k2, k3, k4⟩, kf⟩ := HWN.out
        go_upto_region 11 with (fail)
        have hbw := hbn.setCell (p := ⟨w11.heap.size, 0, none⟩) (Nat.le_refl _) (.int .u64 (S.q + 1))
        have HWM := Lib.hid (HWN.out.put0 (S.q + 1)).1
        generalize wn.setCell ⟨w11.heap.size, 0, none⟩ (.int .u64 (S.q + 1)) = wm at *
        clear a0 a1 a2 a3 a4 k0 k1 k2 k3 k4 kf HWN HAN hbn
        have T_12 := Lib.hid (T_11.out.on hbw)
        have B_12 := Lib.hid (B_11.out.trans (hbw.mono B_11.out.size))
        have d_12 := Lib.hid (d_11.out.on hbw)
        have s_12 := Lib.hid (s_11.out.on hbw)
        have a_12 := Lib.hid (a_11.out.on hbw)
        have x_12 := Lib.hid (x_11.out.on hbw)
        have y_12 := Lib.hid (y_11.out.on hbw)
        have n_12 := Lib.hid (n_11.out.on hbw)
        have t_12 := Lib.hid (t_11.out.on hbw)
        clear T_11 B_11 d_11 s_11 a_11 x_11 y_11 n_11 t_11
        clear hbw
        generalize w11.heap.size = gw at *
        obtain ⟨t0, t1, t2, t3, t4⟩ := t_12.out
        try simp only at t0 t1 t2 t3 t4
        obtain ⟨w0, w1, w2, w3, w4⟩ := HWM.out
        try simp only at w0 w1 w2 w3 w4
        go_upto_region 13 with (fail)
        clear w0 w1 w2 w3 w4
        clear t0 t1 t2 t3 t4
        obtain ⟨x0, x1⟩ := x_12.out
        try simp only at x0 x1
        obtain ⟨y0, y1⟩ := y_12.out
        try simp only at y0 y1
        go_upto_region 14 with (fail)
        clear x0 x1
        clear y0 y1
        obtain ⟨n0, n1, n2, n3, n4⟩ := n_12.out
        try simp only at n0 n1 n2 n3 n4
        obtain ⟨w0, w1, w2, w3, w4⟩ := HWM.out
        try simp only at w0 w1 w2 w3 w4
        go_wp2_with fail
        refine (HAW.out _ T_12.out).mono ?_
        rintro e w12 ⟨rfl, hb⟩
        clear w0 w1 w2 w3 w4
        clear n0 n1 n2 n3 n4
        have T_13 := Lib.hid (T_12.out.on hb)
        have B_13 := Lib.hid (B_12.out.trans (hb.mono B_12.out.size))
        have d_13 := Lib.hid (d_12.out.on hb)
        have s_13 := Lib.hid (s_12.out.on hb)
        have a_13 := Lib.hid (a_12.out.on hb)
        have x_13 := Lib.hid (x_12.out.on hb)
        have y_13 := Lib.hid (y_12.out.on hb)
        have n_13 := Lib.hid (n_12.out.on hb)
        have t_13 := Lib.hid (t_12.out.on hb)
        have w_13 := Lib.hid (HWM.out.on hb)
        clear T_12 B_12 d_12 s_12 a_12 x_12 y_12 n_12 t_12 HWM
        clear hb
        go_wp2_with fail
        go_ret
        exact ⟨rfl, B_13.out⟩
      · have m1 : hasS ⟨D.a, U⟩ = S := m1
        have m2 : reaE ⟨D.a, U⟩ = E := m2
        have HRU := Lib.hid (HRX.out ⟨D.a, U⟩ hDa (by show U.size ≤ 200; omega))
        rw [m1, m2] at HRU
        simp only at HRU
        have z1 : (U.toList == T.toList) = false := by rw [beq_eq_false_iff_ne]; exact fun h => hne (text_eq h)
        have z2 : (E == E) = true := by simp
        clear HRX n1 n2 m1 m2 hne
        obtain ⟨d0, d1⟩ := d_3.out
        try simp only at d0 d1
        obtain ⟨s0, s1, s2, s3, s4⟩ := s_3.out
        try simp only at s0 s1 s2 s3 s4
        go_wp2_with fail
        refine (HTE.out _ T_3.out).mono ?_
        rintro e w4 ⟨rfl, hb⟩
        clear s0 s1 s2 s3 s4
        clear d0 d1
        have T_4 := Lib.hid (T_3.out.on hb)
        have B_4 := Lib.hid (B_3.out.trans (hb.mono B_3.out.size))
        have d_4 := Lib.hid (d_3.out.on hb)
        have s_4 := Lib.hid (s_3.out.on hb)
        have a_4 := Lib.hid (a_3.out.on hb)
        clear T_3 B_3 d_3 s_3 a_3
        clear hb
        have hbn : Below w4.heap.size w4 (w4.alloc (.cells #[.string D.a, .string U] 23)) := (Below.refl _ _).alloc (Nat.le_refl _) _
        have T_5 := Lib.hid (T_4.out.on hbn)
        have B_5 := Lib.hid (B_4.out.trans (hbn.mono B_4.out.size))
        have d_5 := Lib.hid (d_4.out.on hbn)
        have s_5 := Lib.hid (s_4.out.on hbn)
        have a_5 := Lib.hid (a_4.out.on hbn)
        clear T_4 B_4 d_4 s_4 a_4
        have x_5 : Hid (DkA (w4.alloc (.cells #[.string D.a, .string U] 23)) w4.heap.size ⟨D.a, U⟩) := Lib.hid (DkA.new w4 ⟨D.a, U⟩ _)
        clear hbn
        go_upto_region 4 with (fail)
        generalize w4.alloc (.cells #[.string D.a, .string U] 23) = w5 at *
        generalize w4.heap.size = gx at *
        obtain ⟨d0, d1⟩ := d_5.out
        try simp only at d0 d1
        obtain ⟨s0, s1, s2, s3, s4⟩ := s_5.out
        try simp only at s0 s1 s2 s3 s4
        go_wp2_with fail
        refine (HWR.out _ T_5.out).mono ?_
        rintro e w6 ⟨rfl, hb⟩
        clear s0 s1 s2 s3 s4
        clear d0 d1
        have T_6 := Lib.hid (T_5.out.on hb)
        have B_6 := Lib.hid (B_5.out.trans (hb.mono B_5.out.size))
        have d_6 := Lib.hid (d_5.out.on hb)
        have s_6 := Lib.hid (s_5.out.on hb)
        have a_6 := Lib.hid (a_5.out.on hb)
        have x_6 := Lib.hid (x_5.out.on hb)
        clear T_5 B_5 d_5 s_5 a_5 x_5
        clear hb
        have hbn : Below w6.heap.size w6 (w6.alloc (.cells #[.string D.a, .string T] 23)) := (Below.refl _ _).alloc (Nat.le_refl _) _
        have T_7 := Lib.hid (T_6.out.on hbn)
        have B_7 := Lib.hid (B_6.out.trans (hbn.mono B_6.out.size))
        have d_7 := Lib.hid (d_6.out.on hbn)
        have s_7 := Lib.hid (s_6.out.on hbn)
        have a_7 := Lib.hid (a_6.out.on hbn)
        have x_7 := Lib.hid (x_6.out.on hbn)
        clear T_6 B_6 d_6 s_6 a_6 x_6
        have y_7 : Hid (DkA (w6.alloc (.cells #[.string D.a, .string T] 23)) w6.heap.size ⟨D.a, T⟩) := Lib.hid (DkA.new w6 ⟨D.a, T⟩ _)
        clear hbn
        go_upto_region 5 with (fail)
        generalize w6.alloc (.cells #[.string D.a, .string T] 23) = w7 at *
        generalize w6.heap.size = gy at *
        obtain ⟨x0, x1⟩ := x_7.out
        try simp only at x0 x1
        go_wp2_with fail
        refine (HRU.out _ T_7.out).mono ?_
        rintro e w8 ⟨rfl, hb⟩
        clear x0 x1
        have T_8 := Lib.hid (T_7.out.on hb)
        have B_8 := Lib.hid (B_7.out.trans (hb.mono B_7.out.size))
        have d_8 := Lib.hid (d_7.out.on hb)
        have s_8 := Lib.hid (s_7.out.on hb)
        have a_8 := Lib.hid (a_7.out.on hb)
        have x_8 := Lib.hid (x_7.out.on hb)
        have y_8 := Lib.hid (y_7.out.on hb)
        clear T_7 B_7 d_7 s_7 a_7 x_7 y_7
        clear hb
        have hbn : Below w8.heap.size w8 (w8.alloc (.cells #[.int .u64 S.q, .int .u64 S.b, .int .u64 S.i, .int .u64 S.e, .int .i64 S.u] 26)) := (Below.refl _ _).alloc (Nat.le_refl _) _
        have T_9 := Lib.hid (T_8.out.on hbn)
        have B_9 := Lib.hid (B_8.out.trans (hbn.mono B_8.out.size))
        have d_9 := Lib.hid (d_8.out.on hbn)
        have s_9 := Lib.hid (s_8.out.on hbn)
        have a_9 := Lib.hid (a_8.out.on hbn)
        have x_9 := Lib.hid (x_8.out.on hbn)
        have y_9 := Lib.hid (y_8.out.on hbn)
        clear T_8 B_8 d_8 s_8 a_8 x_8 y_8
        have n_9 : Hid (SvA (w8.alloc (.cells #[.int .u64 S.q, .int .u64 S.b, .int .u64 S.i, .int .u64 S.e, .int .i64 S.u] 26)) w8.heap.size S) := Lib.hid (SvA.new w8 S _)
        clear hbn
        go_upto_region 8 with (fail)
        generalize w8.alloc (.cells #[.int .u64 S.q, .int .u64 S.b, .int .u64 S.i, .int .u64 S.e, .int .i64 S.u] 26) = w9 at *
        generalize w8.heap.size = gn at *
        obtain ⟨y0, y1⟩ := y_9.out
        try simp only at y0 y1
        go_wp2_with fail
        refine (HRT.out _ T_9.out).mono ?_
        rintro e w10 ⟨rfl, hb⟩
        clear y0 y1
        have T_10 := Lib.hid (T_9.out.on hb)
        have B_10 := Lib.hid (B_9.out.trans (hb.mono B_9.out.size))
        have d_10 := Lib.hid (d_9.out.on hb)
        have s_10 := Lib.hid (s_9.out.on hb)
        have a_10 := Lib.hid (a_9.out.on hb)
        have x_10 := Lib.hid (x_9.out.on hb)
        have y_10 := Lib.hid (y_9.out.on hb)
        have n_10 := Lib.hid (n_9.out.on hb)
        clear T_9 B_9 d_9 s_9 a_9 x_9 y_9 n_9
        clear hb
        have hbn : Below w10.heap.size w10 (w10.alloc (.cells #[.int .u64 (S.q + 1), .int .u64 s.b, .int .u64 s.i, .int .u64 s.e, .int .i64 s.u] 26)) := (Below.refl _ _).alloc (Nat.le_refl _) _
        have T_11 := Lib.hid (T_10.out.on hbn)
        have B_11 := Lib.hid (B_10.out.trans (hbn.mono B_10.out.size))
        have d_11 := Lib.hid (d_10.out.on hbn)
        have s_11 := Lib.hid (s_10.out.on hbn)
        have a_11 := Lib.hid (a_10.out.on hbn)
        have x_11 := Lib.hid (x_10.out.on hbn)
        have y_11 := Lib.hid (y_10.out.on hbn)
        have n_11 := Lib.hid (n_10.out.on hbn)
        clear T_10 B_10 d_10 s_10 a_10 x_10 y_10 n_10
        have t_11 : Hid (SvA (w10.alloc (.cells #[.int .u64 (S.q + 1), .int .u64 s.b, .int .u64 s.i, .int .u64 s.e, .int .i64 s.u] 26)) w10.heap.size ⟨S.q + 1, s.b, s.i, s.e, s.u⟩) := Lib.hid (SvA.new w10 ⟨S.q + 1, s.b, s.i, s.e, s.u⟩ _)
        clear hbn
        go_upto_region 9 with (fail)
        generalize w10.alloc (.cells #[.int .u64 (S.q + 1), .int .u64 s.b, .int .u64 s.i, .int .u64 s.e, .int .i64 s.u] 26) = w11 at *
        generalize w10.heap.size = gt at *
        obtain ⟨s0, s1, s2, s3, s4⟩ := s_11.out
        try simp only at s0 s1 s2 s3 s4
        obtain ⟨a0, a1, a2, a3, a4⟩ := a_11.out
        try simp only at a0 a1 a2 a3 a4
        go_upto_region 9 with (fail)
        have hbn : Below w11.heap.size w11 (w11.alloc (.cells #[.int .u64 s.q, .int .u64 s.b, .int .u64 s.i, .int .u64 s.e, .int .i64 s.u] 26)) := (Below.refl _ _).alloc (Nat.le_refl _) _
        clear a0 a1 a2 a3 a4
        have HWN : Hid (SvW (w11.alloc (.cells #[.int .u64 s.q, .int .u64 s.b, .int .u64 s.i, .int .u64 s.e, .int .i64 s.u] 26)) w11.heap.size s) := Lib.hid (SvW.new w11 s _)
        have HAN := Lib.hid (a_11.out.on hbn)
        go_upto_region 10 with (fail)
        generalize w11.alloc (.cells #[.int .u64 s.q, .int .u64 s.b, .int .u64 s.i, .int .u64 s.e, .int .i64 s.u] 26) = wn at *
        clear s0 s1 s2 s3 s4
        obtain ⟨a0, a1, a2, a3, a4⟩ := HAN.out
        obtain ⟨⟨k0, k1, k2, k3, k4⟩, kf⟩ := HWN.out
        go_upto_region 11 with (fail)
        have hbw := hbn.setCell (p := ⟨w11.heap.size, 0, none⟩) (Nat.le_refl _) (.int .u64 (S.q + 1))
        have HWM := Lib.hid (HWN.out.put0 (S.q + 1)).1
        generalize wn.setCell ⟨w11.heap.size, 0, none⟩ (.int .u64 (S.q + 1)) = wm at *
        clear a0 a1 a2 a3 a4 k0 k1 k2 k3 k4 kf HWN HAN hbn
        have T_12 := Lib.hid (T_11.out.on hbw)
        have B_12 := Lib.hid (B_11.out.trans (hbw.mono B_11.out.size))
        have d_12 := Lib.hid (d_11.out.on hbw)
        have s_12 := Lib.hid (s_11.out.on hbw)
        have a_12 := Lib.hid (a_11.out.on hbw)
        have x_12 := Lib.hid (x_11.out.on hbw)
        have y_12 := Lib.hid (y_11.out.on hbw)
        have n_12 := Lib.hid (n_11.out.on hbw)
        have t_12 := Lib.hid (t_11.out.on hbw)
        clear T_11 B_11 d_11 s_11 a_11 x_11 y_11 n_11 t_11
        clear hbw
        generalize w11.heap.size = gw at *
        obtain ⟨t0, t1, t2, t3, t4⟩ := t_12.out
        try simp only at t0 t1 t2 t3 t4
        obtain ⟨w0, w1, w2, w3, w4⟩ := HWM.out
        try simp only at w0 w1 w2 w3 w4
        go_upto_region 13 with (fail)
        clear w0 w1 w2 w3 w4
        clear t0 t1 t2 t3 t4
        obtain ⟨x0, x1⟩ := x_12.out
        try simp only at x0 x1
        obtain ⟨y0, y1⟩ := y_12.out
        try simp only at y0 y1
        go_upto_region 15 with (fail)
        clear x0 x1
        clear y0 y1
        obtain ⟨n0, n1, n2, n3, n4⟩ := n_12.out
        try simp only at n0 n1 n2 n3 n4
        obtain ⟨a0, a1, a2, a3, a4⟩ := a_12.out
        try simp only at a0 a1 a2 a3 a4
        go_wp2_with fail
        refine (HAW.out _ T_12.out).mono ?_
        rintro e w12 ⟨rfl, hb⟩
        clear a0 a1 a2 a3 a4
        clear n0 n1 n2 n3 n4
        have T_13 := Lib.hid (T_12.out.on hb)
        have B_13 := Lib.hid (B_12.out.trans (hb.mono B_12.out.size))
        have d_13 := Lib.hid (d_12.out.on hb)
        have s_13 := Lib.hid (s_12.out.on hb)
        have a_13 := Lib.hid (a_12.out.on hb)
        have x_13 := Lib.hid (x_12.out.on hb)
        have y_13 := Lib.hid (y_12.out.on hb)
        have n_13 := Lib.hid (n_12.out.on hb)
        have t_13 := Lib.hid (t_12.out.on hb)
        have w_13 := Lib.hid (HWM.out.on hb)
        clear T_12 B_12 d_12 s_12 a_12 x_12 y_12 n_12 t_12 HWM
        clear hb
        go_wp2_with fail
        go_ret
        exact ⟨rfl, B_13.out⟩
    · have n1 : hasS ⟨T, D.b⟩ = ⟨S.q + 1, s.b, s.i, s.e, s.u⟩ := n1
      have n2 : reaE ⟨T, D.b⟩ = 0 := n2
      have HRT := Lib.hid (HRX.out ⟨T, D.b⟩ (by show T.size ≤ 200; omega) hDb)
      rw [n1, n2] at HRT
      simp only [plD, if_true] at HTE HWR HRT
      have z5 : (D.a.toList == D.a.toList) = true := by simp
      have z6 : (D.b.toList == D.b.toList) = true := by simp
      rcases ho with rfl | ⟨hne, _, m1, m2⟩
      · have z1 : (U.toList == U.toList) = true := by simp
        clear HRX n1 n2
        obtain ⟨d0, d1⟩ := d_3.out
        try simp only at d0 d1
        obtain ⟨s0, s1, s2, s3, s4⟩ := s_3.out
        try simp only at s0 s1 s2 s3 s4
        go_wp2_with fail
        refine (HTE.out _ T_3.out).mono ?_
        rintro e w4 ⟨rfl, hb⟩
        clear s0 s1 s2 s3 s4
        clear d0 d1
        have T_4 := Lib.hid (T_3.out.on hb)
        have B_4 := Lib.hid (B_3.out.trans (hb.mono B_3.out.size))
        have d_4 := Lib.hid (d_3.out.on hb)
        have s_4 := Lib.hid (s_3.out.on hb)
        have a_4 := Lib.hid (a_3.out.on hb)
        clear T_3 B_3 d_3 s_3 a_3
        clear hb
        have hbn : Below w4.heap.size w4 (w4.alloc (.cells #[.string U, .string D.b] 23)) := (Below.refl _ _).alloc (Nat.le_refl _) _
        have T_5 := Lib.hid (T_4.out.on hbn)
        have B_5 := Lib.hid (B_4.out.trans (hbn.mono B_4.out.size))
        have d_5 := Lib.hid (d_4.out.on hbn)
        have s_5 := Lib.hid (s_4.out.on hbn)
        have a_5 := Lib.hid (a_4.out.on hbn)
        clear T_4 B_4 d_4 s_4 a_4
        have x_5 : Hid (DkA (w4.alloc (.cells #[.string U, .string D.b] 23)) w4.heap.size ⟨U, D.b⟩) := Lib.hid (DkA.new w4 ⟨U, D.b⟩ _)
        clear hbn
        go_upto_region 4 with (fail)
        generalize w4.alloc (.cells #[.string U, .string D.b] 23) = w5 at *
        generalize w4.heap.size = gx at *
        obtain ⟨d0, d1⟩ := d_5.out
        try simp only at d0 d1
        obtain ⟨s0, s1, s2, s3, s4⟩ := s_5.out
        try simp only at s0 s1 s2 s3 s4
        go_wp2_with fail
        refine (HWR.out _ T_5.out).mono ?_
        rintro e w6 ⟨rfl, hb⟩
        clear s0 s1 s2 s3 s4
        clear d0 d1
        have T_6 := Lib.hid (T_5.out.on hb)
        have B_6 := Lib.hid (B_5.out.trans (hb.mono B_5.out.size))
        have d_6 := Lib.hid (d_5.out.on hb)
        have s_6 := Lib.hid (s_5.out.on hb)
        have a_6 := Lib.hid (a_5.out.on hb)
        have x_6 := Lib.hid (x_5.out.on hb)
        clear T_5 B_5 d_5 s_5 a_5 x_5
        clear hb
        have hbn : Below w6.heap.size w6 (w6.alloc (.cells #[.string U, .string D.b] 23)) := (Below.refl _ _).alloc (Nat.le_refl _) _
        have T_7 := Lib.hid (T_6.out.on hbn)
        have B_7 := Lib.hid (B_6.out.trans (hbn.mono B_6.out.size))
        have d_7 := Lib.hid (d_6.out.on hbn)
        have s_7 := Lib.hid (s_6.out.on hbn)
        have a_7 := Lib.hid (a_6.out.on hbn)
        have x_7 := Lib.hid (x_6.out.on hbn)
        clear T_6 B_6 d_6 s_6 a_6 x_6
        have y_7 : Hid (DkA (w6.alloc (.cells #[.string U, .string D.b] 23)) w6.heap.size ⟨U, D.b⟩) := Lib.hid (DkA.new w6 ⟨U, D.b⟩ _)
        clear hbn
        go_upto_region 5 with (fail)
        generalize w6.alloc (.cells #[.string U, .string D.b] 23) = w7 at *
        generalize w6.heap.size = gy at *
        obtain ⟨x0, x1⟩ := x_7.out
        try simp only at x0 x1
        go_wp2_with fail
        refine (HRT.out _ T_7.out).mono ?_
        rintro e w8 ⟨rfl, hb⟩
        clear x0 x1
        have T_8 := Lib.hid (T_7.out.on hb)
        have B_8 := Lib.hid (B_7.out.trans (hb.mono B_7.out.size))
        have d_8 := Lib.hid (d_7.out.on hb)
        have s_8 := Lib.hid (s_7.out.on hb)
        have a_8 := Lib.hid (a_7.out.on hb)
        have x_8 := Lib.hid (x_7.out.on hb)
        have y_8 := Lib.hid (y_7.out.on hb)
        clear T_7 B_7 d_7 s_7 a_7 x_7 y_7
        clear hb
        have hbn : Below w8.heap.size w8 (w8.alloc (.cells #[.int .u64 (S.q + 1), .int .u64 s.b, .int .u64 s.i, .int .u64 s.e, .int .i64 s.u] 26)) := (Below.refl _ _).alloc (Nat.le_refl _) _
        have T_9 := Lib.hid (T_8.out.on hbn)
        have B_9 := Lib.hid (B_8.out.trans (hbn.mono B_8.out.size))
        have d_9 := Lib.hid (d_8.out.on hbn)
        have s_9 := Lib.hid (s_8.out.on hbn)
        have a_9 := Lib.hid (a_8.out.on hbn)
        have x_9 := Lib.hid (x_8.out.on hbn)
        have y_9 := Lib.hid (y_8.out.on hbn)
        clear T_8 B_8 d_8 s_8 a_8 x_8 y_8
        have n_9 : Hid (SvA (w8.alloc (.cells #[.int .u64 (S.q + 1), .int .u64 s.b, .int .u64 s.i, .int .u64 s.e, .int .i64 s.u] 26)) w8.heap.size ⟨S.q + 1, s.b, s.i, s.e, s.u⟩) := Lib.hid (SvA.new w8 ⟨S.q + 1, s.b, s.i, s.e, s.u⟩ _)
        clear hbn
        go_upto_region 8 with (fail)
        generalize w8.alloc (.cells #[.int .u64 (S.q + 1), .int .u64 s.b, .int .u64 s.i, .int .u64 s.e, .int .i64 s.u] 26) = w9 at *
        generalize w8.heap.size = gn at *
        obtain ⟨y0, y1⟩ := y_9.out
        try simp only at y0 y1
        go_wp2_with fail
        refine (HRT.out _ T_9.out).mono ?_
        rintro e w10 ⟨rfl, hb⟩
        clear y0 y1
        have T_10 := Lib.hid (T_9.out.on hb)
        have B_10 := Lib.hid (B_9.out.trans (hb.mono B_9.out.size))
        have d_10 := Lib.hid (d_9.out.on hb)
        have s_10 := Lib.hid (s_9.out.on hb)
        have a_10 := Lib.hid (a_9.out.on hb)
        have x_10 := Lib.hid (x_9.out.on hb)
        have y_10 := Lib.hid (y_9.out.on hb)
        have n_10 := Lib.hid (n_9.out.on hb)
        clear T_9 B_9 d_9 s_9 a_9 x_9 y_9 n_9
        clear hb
        have hbn : Below w10.heap.size w10 (w10.alloc (.cells #[.int .u64 (S.q + 1), .int .u64 s.b, .int .u64 s.i, .int .u64 s.e, .int .i64 s.u] 26)) := (Below.refl _ _).alloc (Nat.le_refl _) _
        have T_11 := Lib.hid (T_10.out.on hbn)
        have B_11 := Lib.hid (B_10.out.trans (hbn.mono B_10.out.size))
        have d_11 := Lib.hid (d_10.out.on hbn)
        have s_11 := Lib.hid (s_10.out.on hbn)
        have a_11 := Lib.hid (a_10.out.on hbn)
        have x_11 := Lib.hid (x_10.out.on hbn)
        have y_11 := Lib.hid (y_10.out.on hbn)
        have n_11 := Lib.hid (n_10.out.on hbn)
        clear T_10 B_10 d_10 s_10 a_10 x_10 y_10 n_10
        have t_11 : Hid (SvA (w10.alloc (.cells #[.int .u64 (S.q + 1), .int .u64 s.b, .int .u64 s.i, .int .u64 s.e, .int .i64 s.u] 26)) w10.heap.size ⟨S.q + 1, s.b, s.i, s.e, s.u⟩) := Lib.hid (SvA.new w10 ⟨S.q + 1, s.b, s.i, s.e, s.u⟩ _)
        clear hbn
        go_upto_region 9 with (fail)
        generalize w10.alloc (.cells #[.int .u64 (S.q + 1), .int .u64 s.b, .int .u64 s.i, .int .u64 s.e, .int .i64 s.u] 26) = w11 at *
        generalize w10.heap.size = gt at *
        obtain ⟨s0, s1, s2, s3, s4⟩ := s_11.out
        try simp only at s0 s1 s2 s3 s4
        obtain ⟨a0, a1, a2, a3, a4⟩ := a_11.out
        try simp only at a0 a1 a2 a3 a4
        go_upto_region 9 with (fail)
        have hbn : Below w11.heap.size w11 (w11.alloc (.cells #[.int .u64 s.q, .int .u64 s.b, .int .u64 s.i, .int .u64 s.e, .int .i64 s.u] 26)) := (Below.refl _ _).alloc (Nat.le_refl _) _
        clear a0 a1 a2 a3 a4
        have HWN : Hid (SvW (w11.alloc (.cells #[.int .u64 s.q, .int .u64 s.b, .int .u64 s.i, .int .u64 s.e, .int .i64 s.u] 26)) w11.heap.size s) := Lib.hid (SvW.new w11 s _)
        have HAN := Lib.hid (a_11.out.on hbn)
        go_upto_region 10 with (fail)
        generalize w11.alloc (.cells #[.int .u64 s.q, .int .u64 s.b, .int .u64 s.i, .int .u64 s.e, .int .i64 s.u] 26) = wn at *
        clear s0 s1 s2 s3 s4
        obtain ⟨a0, a1, a2, a3, a4⟩ := HAN.out
        obtain ⟨⟨k0, k1, k2, k3, k4⟩, kf⟩ := HWN.out
        go_upto_region 11 with (fail)
        have hbw := hbn.setCell (p := ⟨w11.heap.size, 0, none⟩) (Nat.le_refl _) (.int .u64 (S.q + 1))
        have HWM := Lib.hid (HWN.out.put0 (S.q + 1)).1
        generalize wn.setCell ⟨w11.heap.size, 0, none⟩ (.int .u64 (S.q + 1)) = wm at *
        clear a0 a1 a2 a3 a4 k0 k1 k2 k3 k4 kf HWN HAN hbn
        have T_12 := Lib.hid (T_11.out.on hbw)
        have B_12 := Lib.hid (B_11.out.trans (hbw.mono B_11.out.size))
        have d_12 := Lib.hid (d_11.out.on hbw)
        have s_12 := Lib.hid (s_11.out.on hbw)
        have a_12 := Lib.hid (a_11.out.on hbw)
        have x_12 := Lib.hid (x_11.out.on hbw)
        have y_12 := Lib.hid (y_11.out.on hbw)
        have n_12 := Lib.hid (n_11.out.on hbw)
        have t_12 := Lib.hid (t_11.out.on hbw)
        clear T_11 B_11 d_11 s_11 a_11 x_11 y_11 n_11 t_11
        clear hbw
        generalize w11.heap.size = gw at *
        obtain ⟨t0, t1, t2, t3, t4⟩ := t_12.out
        try simp only at t0 t1 t2 t3 t4
        obtain ⟨w0, w1, w2, w3, w4⟩ := HWM.out
        try simp only at w0 w1 w2 w3 w4
        go_upto_region 13 with (fail)
        clear w0 w1 w2 w3 w4
        clear t0 t1 t2 t3 t4
        obtain ⟨x0, x1⟩ := x_12.out
        try simp only at x0 x1
        obtain ⟨y0, y1⟩ := y_12.out
        try simp only at y0 y1
        go_upto_region 14 with (fail)
        clear x0 x1
        clear y0 y1
        obtain ⟨n0, n1, n2, n3, n4⟩ := n_12.out
        try simp only at n0 n1 n2 n3 n4
        obtain ⟨w0, w1, w2, w3, w4⟩ := HWM.out
        try simp only at w0 w1 w2 w3 w4
        go_wp2_with fail
        refine (HAW.out _ T_12.out).mono ?_
        rintro e w12 ⟨rfl, hb⟩
        clear w0 w1 w2 w3 w4
        clear n0 n1 n2 n3 n4
        have T_13 := Lib.hid (T_12.out.on hb)
        have B_13 := Lib.hid (B_12.out.trans (hb.mono B_12.out.size))
        have d_13 := Lib.hid (d_12.out.on hb)
        have s_13 := Lib.hid (s_12.out.on hb)
        have a_13 := Lib.hid (a_12.out.on hb)
        have x_13 := Lib.hid (x_12.out.on hb)
        have y_13 := Lib.hid (y_12.out.on hb)
        have n_13 := Lib.hid (n_12.out.on hb)
        have t_13 := Lib.hid (t_12.out.on hb)
        have w_13 := Lib.hid (HWM.out.on hb)
        clear T_12 B_12 d_12 s_12 a_12 x_12 y_12 n_12 t_12 HWM
        clear hb
        go_wp2_with fail
        go_ret
        exact ⟨rfl, B_13.out⟩
      · have m1 : hasS ⟨U, D.b⟩ = S := m1
        have m2 : reaE ⟨U, D.b⟩ = E := m2
        have HRU := Lib.hid (HRX.out ⟨U, D.b⟩ (by show U.size ≤ 200; omega) hDb)
        rw [m1, m2] at HRU
        simp only at HRU
        have z1 : (U.toList == T.toList) = false := by rw [beq_eq_false_iff_ne]; exact fun h => hne (text_eq h)
        have z2 : (E == E) = true := by simp
        clear HRX n1 n2 m1 m2 hne
        obtain ⟨d0, d1⟩ := d_3.out
        try simp only at d0 d1
        obtain ⟨s0, s1, s2, s3, s4⟩ := s_3.out
        try simp only at s0 s1 s2 s3 s4
        go_wp2_with fail
        refine (HTE.out _ T_3.out).mono ?_
        rintro e w4 ⟨rfl, hb⟩
        clear s0 s1 s2 s3 s4
        clear d0 d1
        have T_4 := Lib.hid (T_3.out.on hb)
        have B_4 := Lib.hid (B_3.out.trans (hb.mono B_3.out.size))
        have d_4 := Lib.hid (d_3.out.on hb)
        have s_4 := Lib.hid (s_3.out.on hb)
        have a_4 := Lib.hid (a_3.out.on hb)
        clear T_3 B_3 d_3 s_3 a_3
        clear hb
        have hbn : Below w4.heap.size w4 (w4.alloc (.cells #[.string U, .string D.b] 23)) := (Below.refl _ _).alloc (Nat.le_refl _) _
        have T_5 := Lib.hid (T_4.out.on hbn)
        have B_5 := Lib.hid (B_4.out.trans (hbn.mono B_4.out.size))
        have d_5 := Lib.hid (d_4.out.on hbn)
        have s_5 := Lib.hid (s_4.out.on hbn)
        have a_5 := Lib.hid (a_4.out.on hbn)
        clear T_4 B_4 d_4 s_4 a_4
        have x_5 : Hid (DkA (w4.alloc (.cells #[.string U, .string D.b] 23)) w4.heap.size ⟨U, D.b⟩) := Lib.hid (DkA.new w4 ⟨U, D.b⟩ _)
        clear hbn
        go_upto_region 4 with (fail)
        generalize w4.alloc (.cells #[.string U, .string D.b] 23) = w5 at *
        generalize w4.heap.size = gx at *
        obtain ⟨d0, d1⟩ := d_5.out
        try simp only at d0 d1
        obtain ⟨s0, s1, s2, s3, s4⟩ := s_5.out
        try simp only at s0 s1 s2 s3 s4
        go_wp2_with fail
        refine (HWR.out _ T_5.out).mono ?_
        rintro e w6 ⟨rfl, hb⟩
        clear s0 s1 s2 s3 s4
        clear d0 d1
        have T_6 := Lib.hid (T_5.out.on hb)
        have B_6 := Lib.hid (B_5.out.trans (hb.mono B_5.out.size))
        have d_6 := Lib.hid (d_5.out.on hb)
        have s_6 := Lib.hid (s_5.out.on hb)
        have a_6 := Lib.hid (a_5.out.on hb)
        have x_6 := Lib.hid (x_5.out.on hb)
        clear T_5 B_5 d_5 s_5 a_5 x_5
        clear hb
        have hbn : Below w6.heap.size w6 (w6.alloc (.cells #[.string T, .string D.b] 23)) := (Below.refl _ _).alloc (Nat.le_refl _) _
        have T_7 := Lib.hid (T_6.out.on hbn)
        have B_7 := Lib.hid (B_6.out.trans (hbn.mono B_6.out.size))
        have d_7 := Lib.hid (d_6.out.on hbn)
        have s_7 := Lib.hid (s_6.out.on hbn)
        have a_7 := Lib.hid (a_6.out.on hbn)
        have x_7 := Lib.hid (x_6.out.on hbn)
        clear T_6 B_6 d_6 s_6 a_6 x_6
        have y_7 : Hid (DkA (w6.alloc (.cells #[.string T, .string D.b] 23)) w6.heap.size ⟨T, D.b⟩) := Lib.hid (DkA.new w6 ⟨T, D.b⟩ _)
        clear hbn
        go_upto_region 5 with (fail)
        generalize w6.alloc (.cells #[.string T, .string D.b] 23) = w7 at *
        generalize w6.heap.size = gy at *
        obtain ⟨x0, x1⟩ := x_7.out
        try simp only at x0 x1
        go_wp2_with fail
        refine (HRU.out _ T_7.out).mono ?_
        rintro e w8 ⟨rfl, hb⟩
        clear x0 x1
        have T_8 := Lib.hid (T_7.out.on hb)
        have B_8 := Lib.hid (B_7.out.trans (hb.mono B_7.out.size))
        have d_8 := Lib.hid (d_7.out.on hb)
        have s_8 := Lib.hid (s_7.out.on hb)
        have a_8 := Lib.hid (a_7.out.on hb)
        have x_8 := Lib.hid (x_7.out.on hb)
        have y_8 := Lib.hid (y_7.out.on hb)
        clear T_7 B_7 d_7 s_7 a_7 x_7 y_7
        clear hb
        have hbn : Below w8.heap.size w8 (w8.alloc (.cells #[.int .u64 S.q, .int .u64 S.b, .int .u64 S.i, .int .u64 S.e, .int .i64 S.u] 26)) := (Below.refl _ _).alloc (Nat.le_refl _) _
        have T_9 := Lib.hid (T_8.out.on hbn)
        have B_9 := Lib.hid (B_8.out.trans (hbn.mono B_8.out.size))
        have d_9 := Lib.hid (d_8.out.on hbn)
        have s_9 := Lib.hid (s_8.out.on hbn)
        have a_9 := Lib.hid (a_8.out.on hbn)
        have x_9 := Lib.hid (x_8.out.on hbn)
        have y_9 := Lib.hid (y_8.out.on hbn)
        clear T_8 B_8 d_8 s_8 a_8 x_8 y_8
        have n_9 : Hid (SvA (w8.alloc (.cells #[.int .u64 S.q, .int .u64 S.b, .int .u64 S.i, .int .u64 S.e, .int .i64 S.u] 26)) w8.heap.size S) := Lib.hid (SvA.new w8 S _)
        clear hbn
        go_upto_region 8 with (fail)
        generalize w8.alloc (.cells #[.int .u64 S.q, .int .u64 S.b, .int .u64 S.i, .int .u64 S.e, .int .i64 S.u] 26) = w9 at *
        generalize w8.heap.size = gn at *
        obtain ⟨y0, y1⟩ := y_9.out
        try simp only at y0 y1
        go_wp2_with fail
        refine (HRT.out _ T_9.out).mono ?_
        rintro e w10 ⟨rfl, hb⟩
        clear y0 y1
        have T_10 := Lib.hid (T_9.out.on hb)
        have B_10 := Lib.hid (B_9.out.trans (hb.mono B_9.out.size))
        have d_10 := Lib.hid (d_9.out.on hb)
        have s_10 := Lib.hid (s_9.out.on hb)
        have a_10 := Lib.hid (a_9.out.on hb)
        have x_10 := Lib.hid (x_9.out.on hb)
        have y_10 := Lib.hid (y_9.out.on hb)
        have n_10 := Lib.hid (n_9.out.on hb)
        clear T_9 B_9 d_9 s_9 a_9 x_9 y_9 n_9
        clear hb
        have hbn : Below w10.heap.size w10 (w10.alloc (.cells #[.int .u64 (S.q + 1), .int .u64 s.b, .int .u64 s.i, .int .u64 s.e, .int .i64 s.u] 26)) := (Below.refl _ _).alloc (Nat.le_refl _) _
        have T_11 := Lib.hid (T_10.out.on hbn)
        have B_11 := Lib.hid (B_10.out.trans (hbn.mono B_10.out.size))
        have d_11 := Lib.hid (d_10.out.on hbn)
        have s_11 := Lib.hid (s_10.out.on hbn)
        have a_11 := Lib.hid (a_10.out.on hbn)
        have x_11 := Lib.hid (x_10.out.on hbn)
        have y_11 := Lib.hid (y_10.out.on hbn)
        have n_11 := Lib.hid (n_10.out.on hbn)
        clear T_10 B_10 d_10 s_10 a_10 x_10 y_10 n_10
        have t_11 : Hid (SvA (w10.alloc (.cells #[.int .u64 (S.q + 1), .int .u64 s.b, .int .u64 s.i, .int .u64 s.e, .int .i64 s.u] 26)) w10.heap.size ⟨S.q + 1, s.b, s.i, s.e, s.u⟩) := Lib.hid (SvA.new w10 ⟨S.q + 1, s.b, s.i, s.e, s.u⟩ _)
        clear hbn
        go_upto_region 9 with (fail)
        generalize w10.alloc (.cells #[.int .u64 (S.q + 1), .int .u64 s.b, .int .u64 s.i, .int .u64 s.e, .int .i64 s.u] 26) = w11 at *
        generalize w10.heap.size = gt at *
        obtain ⟨s0, s1, s2, s3, s4⟩ := s_11.out
        try simp only at s0 s1 s2 s3 s4
        obtain ⟨a0, a1, a2, a3, a4⟩ := a_11.out
        try simp only at a0 a1 a2 a3 a4
        go_upto_region 9 with (fail)
        have hbn : Below w11.heap.size w11 (w11.alloc (.cells #[.int .u64 s.q, .int .u64 s.b, .int .u64 s.i, .int .u64 s.e, .int .i64 s.u] 26)) := (Below.refl _ _).alloc (Nat.le_refl _) _
        clear a0 a1 a2 a3 a4
        have HWN : Hid (SvW (w11.alloc (.cells #[.int .u64 s.q, .int .u64 s.b, .int .u64 s.i, .int .u64 s.e, .int .i64 s.u] 26)) w11.heap.size s) := Lib.hid (SvW.new w11 s _)
        have HAN := Lib.hid (a_11.out.on hbn)
        go_upto_region 10 with (fail)
        generalize w11.alloc (.cells #[.int .u64 s.q, .int .u64 s.b, .int .u64 s.i, .int .u64 s.e, .int .i64 s.u] 26) = wn at *
        clear s0 s1 s2 s3 s4
        obtain ⟨a0, a1, a2, a3, a4⟩ := HAN.out
        obtain ⟨⟨k0, k1, k2, k3, k4⟩, kf⟩ := HWN.out
        go_upto_region 11 with (fail)
        have hbw := hbn.setCell (p := ⟨w11.heap.size, 0, none⟩) (Nat.le_refl _) (.int .u64 (S.q + 1))
        have HWM := Lib.hid (HWN.out.put0 (S.q + 1)).1
        generalize wn.setCell ⟨w11.heap.size, 0, none⟩ (.int .u64 (S.q + 1)) = wm at *
        clear a0 a1 a2 a3 a4 k0 k1 k2 k3 k4 kf HWN HAN hbn
        have T_12 := Lib.hid (T_11.out.on hbw)
        have B_12 := Lib.hid (B_11.out.trans (hbw.mono B_11.out.size))
        have d_12 := Lib.hid (d_11.out.on hbw)
        have s_12 := Lib.hid (s_11.out.on hbw)
        have a_12 := Lib.hid (a_11.out.on hbw)
        have x_12 := Lib.hid (x_11.out.on hbw)
        have y_12 := Lib.hid (y_11.out.on hbw)
        have n_12 := Lib.hid (n_11.out.on hbw)
        have t_12 := Lib.hid (t_11.out.on hbw)
        clear T_11 B_11 d_11 s_11 a_11 x_11 y_11 n_11 t_11
        clear hbw
        generalize w11.heap.size = gw at *
        obtain ⟨t0, t1, t2, t3, t4⟩ := t_12.out
        try simp only at t0 t1 t2 t3 t4
        obtain ⟨w0, w1, w2, w3, w4⟩ := HWM.out
        try simp only at w0 w1 w2 w3 w4
        go_upto_region 13 with (fail)
        clear w0 w1 w2 w3 w4
        clear t0 t1 t2 t3 t4
        obtain ⟨x0, x1⟩ := x_12.out
        try simp only at x0 x1
        obtain ⟨y0, y1⟩ := y_12.out
        try simp only at y0 y1
        go_upto_region 15 with (fail)
        clear x0 x1
        clear y0 y1
        obtain ⟨n0, n1, n2, n3, n4⟩ := n_12.out
        try simp only at n0 n1 n2 n3 n4
        obtain ⟨a0, a1, a2, a3, a4⟩ := a_12.out
        try simp only at a0 a1 a2 a3 a4
        go_wp2_with fail
        refine (HAW.out _ T_12.out).mono ?_
        rintro e w12 ⟨rfl, hb⟩
        clear a0 a1 a2 a3 a4
        clear n0 n1 n2 n3 n4
        have T_13 := Lib.hid (T_12.out.on hb)
        have B_13 := Lib.hid (B_12.out.trans (hb.mono B_12.out.size))
        have d_13 := Lib.hid (d_12.out.on hb)
        have s_13 := Lib.hid (s_12.out.on hb)
        have a_13 := Lib.hid (a_12.out.on hb)
        have x_13 := Lib.hid (x_12.out.on hb)
        have y_13 := Lib.hid (y_12.out.on hb)
        have n_13 := Lib.hid (n_12.out.on hb)
        have t_13 := Lib.hid (t_12.out.on hb)
        have w_13 := Lib.hid (HWM.out.on hb)
        clear T_12 B_12 d_12 s_12 a_12 x_12 y_12 n_12 t_12 HWM
        clear hb
        go_wp2_with fail
        go_ret
        exact ⟨rfl, B_13.out⟩
  · obtain ⟨e1, e2, e3⟩ := HNO.out h0
    rw [e1] at HTE
    rw [e2, e3] at HWR
    have z1 : (teE D s c != 0) = true := by simpa using h0
    generalize teE D s c = F at *
    have z2 : (F == F) = true := by simp
    have z3 : (D.a.toList == D.a.toList) = true := by simp
    have z4 : (D.b.toList == D.b.toList) = true := by simp
    clear HST HNO HRX e1 e2 e3 h0
    obtain ⟨d0, d1⟩ := d_3.out
    try simp only at d0 d1
    obtain ⟨s0, s1, s2, s3, s4⟩ := s_3.out
    try simp only at s0 s1 s2 s3 s4
    go_wp2_with fail
    refine (HTE.out _ T_3.out).mono ?_
    rintro e w4 ⟨rfl, hb⟩
    clear s0 s1 s2 s3 s4
    clear d0 d1
    have T_4 := Lib.hid (T_3.out.on hb)
    have B_4 := Lib.hid (B_3.out.trans (hb.mono B_3.out.size))
    have d_4 := Lib.hid (d_3.out.on hb)
    have s_4 := Lib.hid (s_3.out.on hb)
    have a_4 := Lib.hid (a_3.out.on hb)
    clear T_3 B_3 d_3 s_3 a_3
    clear hb
    have hbn : Below w4.heap.size w4 (w4.alloc (.cells #[.string D.a, .string D.b] 23)) := (Below.refl _ _).alloc (Nat.le_refl _) _
    have T_5 := Lib.hid (T_4.out.on hbn)
    have B_5 := Lib.hid (B_4.out.trans (hbn.mono B_4.out.size))
    have d_5 := Lib.hid (d_4.out.on hbn)
    have s_5 := Lib.hid (s_4.out.on hbn)
    have a_5 := Lib.hid (a_4.out.on hbn)
    clear T_4 B_4 d_4 s_4 a_4
    have x_5 : Hid (DkA (w4.alloc (.cells #[.string D.a, .string D.b] 23)) w4.heap.size D) := Lib.hid (DkA.new w4 D _)
    clear hbn
    go_upto_region 4 with (fail)
    generalize w4.alloc (.cells #[.string D.a, .string D.b] 23) = w5 at *
    generalize w4.heap.size = gx at *
    obtain ⟨d0, d1⟩ := d_5.out
    try simp only at d0 d1
    obtain ⟨s0, s1, s2, s3, s4⟩ := s_5.out
    try simp only at s0 s1 s2 s3 s4
    go_wp2_with fail
    refine (HWR.out _ T_5.out).mono ?_
    rintro e w6 ⟨rfl, hb⟩
    clear s0 s1 s2 s3 s4
    clear d0 d1
    have T_6 := Lib.hid (T_5.out.on hb)
    have B_6 := Lib.hid (B_5.out.trans (hb.mono B_5.out.size))
    have d_6 := Lib.hid (d_5.out.on hb)
    have s_6 := Lib.hid (s_5.out.on hb)
    have a_6 := Lib.hid (a_5.out.on hb)
    have x_6 := Lib.hid (x_5.out.on hb)
    clear T_5 B_5 d_5 s_5 a_5 x_5
    clear hb
    have hbn : Below w6.heap.size w6 (w6.alloc (.cells #[.string D.a, .string D.b] 23)) := (Below.refl _ _).alloc (Nat.le_refl _) _
    have T_7 := Lib.hid (T_6.out.on hbn)
    have B_7 := Lib.hid (B_6.out.trans (hbn.mono B_6.out.size))
    have d_7 := Lib.hid (d_6.out.on hbn)
    have s_7 := Lib.hid (s_6.out.on hbn)
    have a_7 := Lib.hid (a_6.out.on hbn)
    have x_7 := Lib.hid (x_6.out.on hbn)
    clear T_6 B_6 d_6 s_6 a_6 x_6
    have y_7 : Hid (DkA (w6.alloc (.cells #[.string D.a, .string D.b] 23)) w6.heap.size D) := Lib.hid (DkA.new w6 D _)
    clear hbn
    go_upto_region 5 with (fail)
    generalize w6.alloc (.cells #[.string D.a, .string D.b] 23) = w7 at *
    generalize w6.heap.size = gy at *
    obtain ⟨d0, d1⟩ := d_7.out
    try simp only at d0 d1
    obtain ⟨x0, x1⟩ := x_7.out
    try simp only at x0 x1
    obtain ⟨y0, y1⟩ := y_7.out
    try simp only at y0 y1
    go_wp2_with fail
    refine (HAW.out _ T_7.out).mono ?_
    rintro e w8 ⟨rfl, hb⟩
    clear x0 x1
    clear d0 d1
    clear y0 y1
    have T_8 := Lib.hid (T_7.out.on hb)
    have B_8 := Lib.hid (B_7.out.trans (hb.mono B_7.out.size))
    have d_8 := Lib.hid (d_7.out.on hb)
    have s_8 := Lib.hid (s_7.out.on hb)
    have a_8 := Lib.hid (a_7.out.on hb)
    have x_8 := Lib.hid (x_7.out.on hb)
    have y_8 := Lib.hid (y_7.out.on hb)
    clear T_7 B_7 d_7 s_7 a_7 x_7 y_7
    clear hb
    go_wp2_with fail
    go_ret
    exact ⟨rfl, B_8.out⟩

theorem parOk : ∀ t ∈ (#[23, 26, 5] : Array TypeId).toList, Tryd.prog.readableRec t = true ∧ t < Tryd.prog.types.size := by
  have hall : ([23, 26, 5].all fun t => Tryd.prog.readableRec t && decide (t < Tryd.prog.types.size)) = true := by kernel_rfl
  intro t ht
  simpa using List.all_eq_true.1 hall t ht

/-- What the walk gives, for every argument and every world that holds the table. -/
theorem contract (H : Type) (enc : TypeId × Value → H) (W : World) (base : Nat) (args : Array Value) (ds gs : List (DataW H)) (before : List MemPlace)
    (hval : ∀ (j : Nat) t v, Tryd.f5.params[j]? = some t → args[j]? = some v → Value.okWide Tryd.prog W .any base t v)
    (hW : DataW.Whole enc Tryd.prog Tryd.f5.params.toList Rows.diskTearsSpec.vars false W args.toList ds gs before) (hL : laidMetH Tryd.prog Rows.diskTearsRow.laid W) :
    Calls Tryd.prog 5 args W fun e W' => ∃ v, e = .returned v ∧ Rows.diskTearsSpec.post enc Tryd.prog Tryd.f5 false true false false W args v W' := by
  have hW' := hW
  obtain ⟨p, q, hA0, hV, rfl, hfz, hnd⟩ := hW
  have hA : DataW.TrodAll enc Tryd.prog W 0 (fun _ => true) true Tryd.f5.params.toList args.toList ds p := hA0
  rw [Tryd.params5] at hA hval
  obtain ⟨v0, vs0, d0, ds0, p0, q0, hargs, rfl, rfl, h0, r0⟩ := trodAll_cons hA
  obtain ⟨v1, vs1, d1, ds1, p1, q1, rfl, rfl, rfl, h1, r1⟩ := trodAll_cons r0
  obtain ⟨v2, vs2, d2, ds2, p2, q2, rfl, rfl, rfl, h2, r2⟩ := trodAll_cons r1
  obtain ⟨rfl, rfl, rfl⟩ := trodAll_nil r2
  obtain rfl : args = #[v0, v1, v2] := by cases args; simp_all
  obtain ⟨rfl, rfl⟩ := trodVars_none hV
  obtain ⟨d, rfl, ha, hb⟩ := open_disk (hval 0 23 v0 rfl rfl) h0
  obtain ⟨s, rfl, hf⟩ := open_saved (hval 1 26 v1 rfl rfl) h1
  obtain ⟨c, rfl, hc⟩ := open_nat Tryd.underlying5 (m := 255) (fun a => u8_of_wf) (hval 2 5 v2 rfl rfl) h2
  clear hA0
  refine (walk d s c W ha hb hf hc (tab_of_laid hL)).mono fun e W' ⟨he, hb⟩ => ?_
  subst he
  exact ⟨_, rfl, law_post rfl (by rw [Tryd.params5]; exact parOk) rfl hW' rfl rfl rfl hb⟩

theorem laid_met (os : Os) : laidMet Tryd.prog Rows.diskTearsRow.laid ((laidWorld os).forCall (fun _ _ => 0) ⟨#[], #[.agg #[.string ⟨#[]⟩, .string ⟨#[]⟩], .agg #[.int .u64 0, .int .u64 0, .int .u64 0, .int .u64 0, .int .i64 0], .int .u8 0], []⟩).memory :=
  laidMet_of_run' 8 (by kernel_rfl) (by kernel_rfl)
theorem reads (os : Os) {H : Type} (enc : TypeId × Value → H) : ∃ places, DataW.whole enc Tryd.prog ((laidWorld os).forCall (fun _ _ => 0) ⟨#[], #[.agg #[.string ⟨#[]⟩, .string ⟨#[]⟩], .agg #[.int .u64 0, .int .u64 0, .int .u64 0, .int .u64 0, .int .i64 0], .int .u8 0], []⟩).memory Tryd.f5.params.toList Rows.diskTearsSpec.vars false (#[.agg #[.string ⟨#[]⟩, .string ⟨#[]⟩], .agg #[.int .u64 0, .int .u64 0, .int .u64 0, .int .u64 0, .int .i64 0], .int .u8 0] : Array Value).toList 8 = some ([.agg [.lit (.string []), .lit (.string [])], .agg [.lit (.int .u64 0), .lit (.int .u64 0), .lit (.int .u64 0), .lit (.int .u64 0), .lit (.int .i64 0)], .lit (.int .u8 0)], [], places) :=
  ⟨[], by kernel_rfl⟩

set_option maxRecDepth 100000 in
theorem lifted (os : Os) (started : os.Started) (H : Type) (enc : TypeId × Value → H) (F : Stop.Interp) :
    ReturnsInHanded {} Tryd.checked os 5 .any ((OpenSpec.ofChange Rows.diskTearsSpec).preRow enc Tryd.prog Tryd.f5 Rows.diskTearsRow.domain false Rows.diskTearsRow.laid) (((OpenSpec.ofChange Rows.diskTearsSpec).at F).post enc Tryd.prog Tryd.f5 false true false false) := by
  obtain ⟨places, hx⟩ := reads os enc
  refine returnsInHanded_of_row (C := Tryd.checked) (s := OpenSpec.ofChange Rows.diskTearsSpec) own started (by kernel_rfl) Tryd.func5
    (witness_row_at (enc := enc) (C := Tryd.checked) false (laidWorld os) #[.agg #[.string ⟨#[]⟩, .string ⟨#[]⟩], .agg #[.int .u64 0, .int .u64 0, .int .u64 0, .int .u64 0, .int .i64 0], .int .u8 0] rfl (by kernel_rfl) (by kernel_rfl) (by kernel_rfl)
      (OpenSpec.preRow_of_cond 8 hx (by kernel_rfl) (fun k hk => by cases hk) (by kernel_rfl) (laid_met os))) ?_
  intro W base args ds gs before hval hW _ _ _ hL _ _
  exact contract H enc W base args ds gs before hval hW hL

theorem said : Rows.DiskTearsSaid :=
  OpenClaim.holds_of_cond 5 Tryd.f5 rfl rfl rfl rfl rfl rfl rfl ⟨rfl, rfl, rfl, rfl, rfl⟩ rfl rfl rfl rfl rfl (by kernel_rfl) Tryd.func5 (by kernel_rfl)
    (of_decide_eq_true (by kernel_rfl)) (by unfold Func.isWrapper; first | (rw [if_pos (by decide +kernel)]; kernel_rfl) | (rw [if_neg (by decide +kernel)]; exact ⟨rfl, rfl⟩))
    (fun os started H enc _ F => by rw [OpenClaim.pre_eq_preRow]; exact lifted os started H enc F)

/-- No parameter wants a stand-in; the program's own looks are off. -/
theorem plain (f : FuncId) (fn : Func) (hf : Tryd.pinned.checked.prog.funcNamed "tattle/tattlelaw16.DiskTears" = some f) (hfn : Tryd.pinned.checked.prog.funcs[f]? = some fn) :
    false = Tryd.pinned.checked.prog.looks [] ∧ ∀ (j : Nat) t, fn.params[j]? = some t → Tryd.pinned.checked.prog.wantsStandIn t = false := by
  obtain rfl : f = 5 := Option.some.inj ((show Tryd.prog.funcNamed "tattle/tattlelaw16.DiskTears" = some 5 by kernel_rfl).symm.trans hf) |>.symm
  obtain rfl : fn = Tryd.f5 := (Option.some.inj (Tryd.func5.symm.trans hfn)).symm
  refine ⟨by kernel_rfl, fun j t ht => ?_⟩
  rw [Tryd.params5] at ht
  have hm : t ∈ [23, 26, 5] := by simpa using Array.mem_of_getElem? ht
  have hall : ([23, 26, 5].all fun u => !Tryd.prog.wantsStandIn u) = true := by kernel_rfl
  exact (show Tryd.prog.wantsStandIn t = false by simpa using List.all_eq_true.1 hall t hm)

/-- THE CARD. -/
theorem card : Rows.DiskTearsCardSaid :=
  Claim7.holds_tied_plain_at .later [] _ _ _ _ said (fun _ h => by cases h) (by kernel_rfl) (fun _ h => by cases h) diskTears_row_tie rfl ⟨rfl, rfl⟩ (by kernel_rfl) rfl plain (by kernel_rfl)
end Go.Proofs.YtlpnhpnigljlnaaDoor.lawTears
