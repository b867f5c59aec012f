/-
  DiskReads: whatever text's, whatever disk's, what is saved is the document's, or why there is none; what may be saved, laid down, is read as it was: the law returns true for every input.
-/
import Derived.Test.YtlpnhpnigljlnaaDoorLw
import Derived.Test.YtlpnhpnigljlnaaDoorAk
import Derived.Test.YtlpnhpnigljlnaaDoorCards
import Derived.Test.YtlpnhpnigljlnaaDoorTie
namespace Go.Proofs.YtlpnhpnigljlnaaDoor.lawReads
open Go.ChangeMaps (open_string)
open Go.Sort Go.ChangeShapes Go.WideShapes Go.ChangeAt Go.RowKit Go.Joins Go.Proofs.YtlpnhpnigljlnaaDoor.Pure Go.Proofs.YtlpnhpnigljlnaaDoor.Crc

set_option maxRecDepth 100000 in
set_option maxHeartbeats 4000000 in
theorem walk (t : ByteArray) (d : Dk) (s : Sv) (w : World) (_ : t.size ≤ maxLen) (ha : d.a.size ≤ maxLen) (hb : d.b.size ≤ maxLen) (hf : FitS s) (ht : Tab w) : Calls Tryd.prog 3 #[.string t, .agg #[.string d.a, .string d.b], .agg #[.int .u64 s.q, .int .u64 s.b, .int .u64 s.i, .int .u64 s.e, .int .i64 s.u]] w fun e w' => e = .returned (.bool true) ∧ Below w.heap.size w w' := by
  have hst : t.size ≤ 9223372036854775807 := by rename_i h; simpa [maxLen] using h
  have HAW := Lib.hid (fun (W : World) (hT : Tab W) => awake_any W hT)
  have HFE := Lib.hid (fun (W : World) => few_any d W ha hb)
  have hDa := few1_size d.a
  have hDb := few1_size d.b
  have eDa : (fewD d).a = few1 d.a := rfl
  have eDb : (fewD d).b = few1 d.b := rfl
  rw [← eDa] at hDa
  rw [← eDb] at hDb
  clear eDa eDb ha hb
  have HD_0 : Hid (DkW ((w.alloc (.cells #[.string d.a, .string d.b] 23)).alloc (.cells #[.int .u64 s.q, .int .u64 s.b, .int .u64 s.i, .int .u64 s.e, .int .i64 s.u] 26)) w.heap.size d) := Lib.hid ((DkW.new w d _).on ((Below.refl _ _).alloc (Nat.le_refl _) _))
  have HS_0 : Hid (SvW ((w.alloc (.cells #[.string d.a, .string d.b] 23)).alloc (.cells #[.int .u64 s.q, .int .u64 s.b, .int .u64 s.i, .int .u64 s.e, .int .i64 s.u] 26)) (w.heap.size + 1) s) := Lib.hid (by
    have h := SvW.new (w.alloc (.cells #[.string d.a, .string d.b] 23)) s 26
    simpa using h)
  have HB_0 : Hid (Below w.heap.size w ((w.alloc (.cells #[.string d.a, .string d.b] 23)).alloc (.cells #[.int .u64 s.q, .int .u64 s.b, .int .u64 s.i, .int .u64 s.e, .int .i64 s.u] 26))) := Lib.hid (((Below.refl _ _).alloc (Nat.le_refl _) _).alloc (by simp) _)
  have HT_0 := Lib.hid (ht.on HB_0.out)
  have htab := ht.pos
  clear ht
  generalize fewD d = D at *
  have hT1 := few1_size t
  have HX : Hid (few1 t = if 200 < t.size then t.extract 0 200 else t) := Lib.hid rfl
  generalize few1 t = X at *
  have HPA := Lib.hid (fun (W : World) (hT : Tab W) => parse_any X W (by omega) hT)
  have HPB := Lib.hid (fun (W : World) => rparse_any X W (by omega))
  have HRD := Lib.hid (fun (W : World) (hT : Tab W) => read_any D W (by omega) (by omega) hT)
  have HRR := Lib.hid (fun (W : World) => rread_any D W (by omega) (by omega))
  have HM := Lib.hid (fun W => rmay_any s W)
  have HLY : Hid (∀ (hm : mayB s = true) (W : World) (hT : Tab W), Calls Tryd.prog 14 #[.agg #[.int .u64 s.q, .int .u64 s.b, .int .u64 s.i, .int .u64 s.e, .int .i64 s.u]] W fun e w' => e = .returned (.tuple #[.string (layC s), .int .i64 0]) ∧ Below W.heap.size W w') := Lib.hid (fun hm W hT => lay_yes s W (hf.sv hm) hT)
  have HLN : Hid (∀ (hm : mayB s = false) (W : World), Calls Tryd.prog 14 #[.agg #[.int .u64 s.q, .int .u64 s.b, .int .u64 s.i, .int .u64 s.e, .int .i64 s.u]] W fun e w' => e = .returned (.tuple #[.string ⟨#[]⟩, .int .i64 1]) ∧ Below W.heap.size W w') := Lib.hid (fun hm W => lay_no s W hm)
  have HRL : Hid (∀ (hm : mayB s = true) (W : World), Calls Tryd.prog 17 #[.agg #[.int .u64 s.q, .int .u64 s.b, .int .u64 s.i, .int .u64 s.e, .int .i64 s.u]] W fun e w' => e = .returned (.string (layC s)) ∧ Below W.heap.size W w') := Lib.hid (fun hm W => rlay_yes s W (hf.sv hm))
  have HPL : Hid (∀ (hm : mayB s = true) (W : World) (hT : Tab W), Calls Tryd.prog 10 #[.string (layC s)] W fun e w' => e = .returned (.tuple #[.agg #[.int .u64 s.q, .int .u64 s.b, .int .u64 s.i, .int .u64 s.e, .int .i64 s.u], .int .i64 0]) ∧ Below W.heap.size W w') := Lib.hid (fun hm W hT => by
    have h := parse_any (layC s) W (by have := layC_size s; omega) hT
    rw [(lay_par (hf.sv hm)).1, (lay_par (hf.sv hm)).2] at h
    exact h)
  generalize parS X = xs at *
  generalize parE X = xe at *
  generalize hasS D = ys at *
  generalize reaE D = ye at *
  generalize layC s = L at *
  clear hf hT1 hDa hDb
  go_enter Tryd.func3, Tryd.ntmps3
  go_upto_region 1 with (fail)
  generalize (w.alloc (.cells #[.string d.a, .string d.b] 23)).alloc (.cells #[.int .u64 s.q, .int .u64 s.b, .int .u64 s.i, .int .u64 s.e, .int .i64 s.u] 26) = w0 at *
  obtain ⟨⟨d0, d1⟩, df⟩ := HD_0.out
  try simp only at d0 d1
  go_wp2_with fail
  refine (HFE.out _).mono ?_
  rintro e w1 ⟨rfl, hb⟩
  clear d0 d1 df
  have T_1 := Lib.hid (HT_0.out.on hb)
  have B_1 := Lib.hid (HB_0.out.trans (hb.mono HB_0.out.size))
  have d_1 := Lib.hid (HD_0.out.on hb)
  have s_1 := Lib.hid (HS_0.out.on hb)
  clear HT_0 HB_0 HD_0 HS_0
  clear hb
  obtain ⟨⟨d0, d1⟩, df⟩ := d_1.out
  try simp only at d0 d1
  have HD_s := Lib.hid (d_1.out.set D)
  have HS_s := Lib.hid ((s_1.out.apart (p := ⟨w.heap.size, 0, none⟩) (by show w.heap.size ≠ w.heap.size + 1; omega) (.string D.a)).apart (p := ⟨w.heap.size, 1, none⟩) (by show w.heap.size ≠ w.heap.size + 1; omega) (.string D.b))
  have HB_s := Lib.hid (below_set2 B_1.out (Nat.le_refl _) (.string D.a) (.string D.b))
  have HT_s := Lib.hid (tab_set (tab_set T_1.out (p := ⟨w.heap.size, 0, none⟩) (by show ¬ w.heap.size = 0; omega) (.string D.a)) (p := ⟨w.heap.size, 1, none⟩) (by show ¬ w.heap.size = 0; omega) (.string D.b))
  clear d_1 s_1 B_1 T_1
  go_upto_region 2 with (fail)
  generalize (w1.setCell ⟨w.heap.size, 0, none⟩ (.string D.a)).setCell ⟨w.heap.size, 1, none⟩ (.string D.b) = wf at *
  clear d0 d1 df
  have HD_t := Lib.hid HD_s.out.1
  have HS_t := Lib.hid HS_s.out.1
  clear HD_s HS_s HFE htab
  go_upto_if 23 with (fail)
  go_cut [0] from 24 to 25 (fun v wx => v = .string X ∧ wf = wx)
  case first =>
    have hX := HX.out
    by_cases h2 : 200 < t.size
    · rw [if_pos h2] at hX
      have HX2 := Lib.hid hX
      clear hX
      go_wp2_with fail
      first | exact ⟨by rw [HX2.out], rfl⟩ | (go_meet; exact ⟨by rw [HX2.out], rfl⟩)
    · rw [if_neg h2] at hX
      have HX2 := Lib.hid hX
      clear hX
      go_wp2_with fail
      first | exact ⟨by rw [HX2.out], rfl⟩ | (go_meet; exact ⟨by rw [HX2.out], rfl⟩)
  case rest =>
    obtain ⟨rfl, rfl⟩ := hcut
    clear HX
    go_wp2_with fail
    refine (HPA.out _ HT_s.out).mono ?_
    rintro e w2 ⟨rfl, hb⟩
    have T_2 := Lib.hid (HT_s.out.on hb)
    have B_2 := Lib.hid (HB_s.out.trans (hb.mono HB_s.out.size))
    have d_2 := Lib.hid (HD_t.out.on hb)
    have s_2 := Lib.hid (HS_t.out.on hb)
    clear HT_s HB_s HD_t HS_t
    clear hb
    have hbn : Below w2.heap.size w2 (w2.alloc (.cells #[.int .u64 xs.q, .int .u64 xs.b, .int .u64 xs.i, .int .u64 xs.e, .int .i64 xs.u] 26)) := (Below.refl _ _).alloc (Nat.le_refl _) _
    have T_3 := Lib.hid (T_2.out.on hbn)
    have B_3 := Lib.hid (B_2.out.trans (hbn.mono B_2.out.size))
    have d_3 := Lib.hid (d_2.out.on hbn)
    have s_3 := Lib.hid (s_2.out.on hbn)
    clear T_2 B_2 d_2 s_2
    have x_3 : Hid (SvA (w2.alloc (.cells #[.int .u64 xs.q, .int .u64 xs.b, .int .u64 xs.i, .int .u64 xs.e, .int .i64 xs.u] 26)) w2.heap.size xs) := Lib.hid (SvA.new w2 xs _)
    clear hbn
    go_upto_region 5 with (fail)
    generalize w2.alloc (.cells #[.int .u64 xs.q, .int .u64 xs.b, .int .u64 xs.i, .int .u64 xs.e, .int .i64 xs.u] 26) = w3 at *
    generalize w2.heap.size = gx at *
    go_wp2_with fail
    refine (HPB.out _).mono ?_
    rintro e w4 ⟨rfl, hb⟩
    have T_4 := Lib.hid (T_3.out.on hb)
    have B_4 := Lib.hid (B_3.out.trans (hb.mono B_3.out.size))
    have d_4 := Lib.hid (d_3.out.on hb)
    have s_4 := Lib.hid (s_3.out.on hb)
    have x_4 := Lib.hid (x_3.out.on hb)
    clear T_3 B_3 d_3 s_3 x_3
    clear hb
    have hbn : Below w4.heap.size w4 (w4.alloc (.cells #[.int .u64 xs.q, .int .u64 xs.b, .int .u64 xs.i, .int .u64 xs.e, .int .i64 xs.u] 26)) := (Below.refl _ _).alloc (Nat.le_refl _) _
    have T_5 := Lib.hid (T_4.out.on hbn)
    have B_5 := Lib.hid (B_4.out.trans (hbn.mono B_4.out.size))
    have d_5 := Lib.hid (d_4.out.on hbn)
    have s_5 := Lib.hid (s_4.out.on hbn)
    have x_5 := Lib.hid (x_4.out.on hbn)
    clear T_4 B_4 d_4 s_4 x_4
    have y_5 : Hid (SvA (w4.alloc (.cells #[.int .u64 xs.q, .int .u64 xs.b, .int .u64 xs.i, .int .u64 xs.e, .int .i64 xs.u] 26)) w4.heap.size xs) := Lib.hid (SvA.new w4 xs _)
    clear hbn
    go_upto_region 6 with (fail)
    generalize w4.alloc (.cells #[.int .u64 xs.q, .int .u64 xs.b, .int .u64 xs.i, .int .u64 xs.e, .int .i64 xs.u] 26) = w5 at *
    generalize w4.heap.size = gy at *
    obtain ⟨d0, d1⟩ := d_5.out
    try simp only at d0 d1
    go_wp2_with fail
    refine (HRD.out _ T_5.out).mono ?_
    rintro e w6 ⟨rfl, hb⟩
    clear d0 d1
    have T_6 := Lib.hid (T_5.out.on hb)
    have B_6 := Lib.hid (B_5.out.trans (hb.mono B_5.out.size))
    have d_6 := Lib.hid (d_5.out.on hb)
    have s_6 := Lib.hid (s_5.out.on hb)
    have x_6 := Lib.hid (x_5.out.on hb)
    have y_6 := Lib.hid (y_5.out.on hb)
    clear T_5 B_5 d_5 s_5 x_5 y_5
    clear hb
    have hbn : Below w6.heap.size w6 (w6.alloc (.cells #[.int .u64 ys.q, .int .u64 ys.b, .int .u64 ys.i, .int .u64 ys.e, .int .i64 ys.u] 26)) := (Below.refl _ _).alloc (Nat.le_refl _) _
    have T_7 := Lib.hid (T_6.out.on hbn)
    have B_7 := Lib.hid (B_6.out.trans (hbn.mono B_6.out.size))
    have d_7 := Lib.hid (d_6.out.on hbn)
    have s_7 := Lib.hid (s_6.out.on hbn)
    have x_7 := Lib.hid (x_6.out.on hbn)
    have y_7 := Lib.hid (y_6.out.on hbn)
    clear T_6 B_6 d_6 s_6 x_6 y_6
    have u_7 : Hid (SvA (w6.alloc (.cells #[.int .u64 ys.q, .int .u64 ys.b, .int .u64 ys.i, .int .u64 ys.e, .int .i64 ys.u] 26)) w6.heap.size ys) := Lib.hid (SvA.new w6 ys _)
    clear hbn
    go_upto_region 7 with (fail)
    generalize w6.alloc (.cells #[.int .u64 ys.q, .int .u64 ys.b, .int .u64 ys.i, .int .u64 ys.e, .int .i64 ys.u] 26) = w7 at *
    generalize w6.heap.size = gu at *
    obtain ⟨d0, d1⟩ := d_7.out
    try simp only at d0 d1
    go_wp2_with fail
    refine (HRR.out _).mono ?_
    rintro e w8 ⟨rfl, hb⟩
    clear d0 d1
    have T_8 := Lib.hid (T_7.out.on hb)
    have B_8 := Lib.hid (B_7.out.trans (hb.mono B_7.out.size))
    have d_8 := Lib.hid (d_7.out.on hb)
    have s_8 := Lib.hid (s_7.out.on hb)
    have x_8 := Lib.hid (x_7.out.on hb)
    have y_8 := Lib.hid (y_7.out.on hb)
    have u_8 := Lib.hid (u_7.out.on hb)
    clear T_7 B_7 d_7 s_7 x_7 y_7 u_7
    clear hb
    have hbn : Below w8.heap.size w8 (w8.alloc (.cells #[.int .u64 ys.q, .int .u64 ys.b, .int .u64 ys.i, .int .u64 ys.e, .int .i64 ys.u] 26)) := (Below.refl _ _).alloc (Nat.le_refl _) _
    have T_9 := Lib.hid (T_8.out.on hbn)
    have B_9 := Lib.hid (B_8.out.trans (hbn.mono B_8.out.size))
    have d_9 := Lib.hid (d_8.out.on hbn)
    have s_9 := Lib.hid (s_8.out.on hbn)
    have x_9 := Lib.hid (x_8.out.on hbn)
    have y_9 := Lib.hid (y_8.out.on hbn)
    have u_9 := Lib.hid (u_8.out.on hbn)
    clear T_8 B_8 d_8 s_8 x_8 y_8 u_8
    have v_9 : Hid (SvA (w8.alloc (.cells #[.int .u64 ys.q, .int .u64 ys.b, .int .u64 ys.i, .int .u64 ys.e, .int .i64 ys.u] 26)) w8.heap.size ys) := Lib.hid (SvA.new w8 ys _)
    clear hbn
    go_upto_region 8 with (fail)
    generalize w8.alloc (.cells #[.int .u64 ys.q, .int .u64 ys.b, .int .u64 ys.i, .int .u64 ys.e, .int .i64 ys.u] 26) = w9 at *
    generalize w8.heap.size = gv at *
    obtain ⟨x0, x1, x2, x3, x4⟩ := x_9.out
    try simp only at x0 x1 x2 x3 x4
    obtain ⟨y0, y1, y2, y3, y4⟩ := y_9.out
    try simp only at y0 y1 y2 y3 y4
    obtain ⟨u0, u1, u2, u3, u4⟩ := u_9.out
    try simp only at u0 u1 u2 u3 u4
    obtain ⟨v0, v1, v2, v3, v4⟩ := v_9.out
    try simp only at v0 v1 v2 v3 v4
    have z1 : ((xe : Int) != (xe : Int)) = false := by simp
    have z2 : (xe != xe) = false := by simp
    have z3 : (ye != ye) = false := by simp
    go_upto_region 10 with (fail)
    clear z1 z2 z3
    clear u0 u1 u2 u3 u4
    clear x0 x1 x2 x3 x4
    clear y0 y1 y2 y3 y4
    clear v0 v1 v2 v3 v4
    obtain ⟨s0, s1, s2, s3, s4⟩ := s_9.out
    try simp only at s0 s1 s2 s3 s4
    rcases hm : mayB s with _ | _
    · have HL := Lib.hid (HLN.out hm)
      rw [hm] at HM
      clear HLN HLY HRL HPL hm
      go_wp2_with fail
      refine (HL.out _).mono ?_
      rintro e w10 ⟨rfl, hb⟩
      clear s0 s1 s2 s3 s4
      have T_10 := Lib.hid (T_9.out.on hb)
      have B_10 := Lib.hid (B_9.out.trans (hb.mono B_9.out.size))
      have d_10 := Lib.hid (d_9.out.on hb)
      have s_10 := Lib.hid (s_9.out.on hb)
      have x_10 := Lib.hid (x_9.out.on hb)
      have y_10 := Lib.hid (y_9.out.on hb)
      have u_10 := Lib.hid (u_9.out.on hb)
      have v_10 := Lib.hid (v_9.out.on hb)
      clear T_9 B_9 d_9 s_9 x_9 y_9 u_9 v_9
      clear hb
      obtain ⟨s0, s1, s2, s3, s4⟩ := s_10.out
      try simp only at s0 s1 s2 s3 s4
      go_wp2_with fail
      refine (HM.out _).mono ?_
      rintro e w11 ⟨rfl, hb⟩
      clear s0 s1 s2 s3 s4
      have T_11 := Lib.hid (T_10.out.on hb)
      have B_11 := Lib.hid (B_10.out.trans (hb.mono B_10.out.size))
      have d_11 := Lib.hid (d_10.out.on hb)
      have s_11 := Lib.hid (s_10.out.on hb)
      have x_11 := Lib.hid (x_10.out.on hb)
      have y_11 := Lib.hid (y_10.out.on hb)
      have u_11 := Lib.hid (u_10.out.on hb)
      have v_11 := Lib.hid (v_10.out.on hb)
      clear T_10 B_10 d_10 s_10 x_10 y_10 u_10 v_10
      clear hb
      go_wp2_with fail
      refine (HAW.out _ T_11.out).mono ?_
      rintro e w12 ⟨rfl, hb⟩
      have T_12 := Lib.hid (T_11.out.on hb)
      have B_12 := Lib.hid (B_11.out.trans (hb.mono B_11.out.size))
      have d_12 := Lib.hid (d_11.out.on hb)
      have s_12 := Lib.hid (s_11.out.on hb)
      have x_12 := Lib.hid (x_11.out.on hb)
      have y_12 := Lib.hid (y_11.out.on hb)
      have u_12 := Lib.hid (u_11.out.on hb)
      have v_12 := Lib.hid (v_11.out.on hb)
      clear T_11 B_11 d_11 s_11 x_11 y_11 u_11 v_11
      clear hb
      go_wp2_with fail
      go_ret
      exact ⟨rfl, B_12.out⟩
    · have HL := Lib.hid (HLY.out hm)
      have HR := Lib.hid (HRL.out hm)
      have HP := Lib.hid (HPL.out hm)
      rw [hm] at HM
      have z1 : (L.toList == L.toList) = true := by simp
      clear HLN HLY HRL HPL hm
      go_wp2_with fail
      refine (HL.out _ T_9.out).mono ?_
      rintro e w10 ⟨rfl, hb⟩
      clear s0 s1 s2 s3 s4
      have T_10 := Lib.hid (T_9.out.on hb)
      have B_10 := Lib.hid (B_9.out.trans (hb.mono B_9.out.size))
      have d_10 := Lib.hid (d_9.out.on hb)
      have s_10 := Lib.hid (s_9.out.on hb)
      have x_10 := Lib.hid (x_9.out.on hb)
      have y_10 := Lib.hid (y_9.out.on hb)
      have u_10 := Lib.hid (u_9.out.on hb)
      have v_10 := Lib.hid (v_9.out.on hb)
      clear T_9 B_9 d_9 s_9 x_9 y_9 u_9 v_9
      clear hb
      obtain ⟨s0, s1, s2, s3, s4⟩ := s_10.out
      try simp only at s0 s1 s2 s3 s4
      go_wp2_with fail
      refine (HM.out _).mono ?_
      rintro e w11 ⟨rfl, hb⟩
      clear s0 s1 s2 s3 s4
      have T_11 := Lib.hid (T_10.out.on hb)
      have B_11 := Lib.hid (B_10.out.trans (hb.mono B_10.out.size))
      have d_11 := Lib.hid (d_10.out.on hb)
      have s_11 := Lib.hid (s_10.out.on hb)
      have x_11 := Lib.hid (x_10.out.on hb)
      have y_11 := Lib.hid (y_10.out.on hb)
      have u_11 := Lib.hid (u_10.out.on hb)
      have v_11 := Lib.hid (v_10.out.on hb)
      clear T_10 B_10 d_10 s_10 x_10 y_10 u_10 v_10
      clear hb
      go_wp2_with fail
      refine (HP.out _ T_11.out).mono ?_
      rintro e w12 ⟨rfl, hb⟩
      have T_12 := Lib.hid (T_11.out.on hb)
      have B_12 := Lib.hid (B_11.out.trans (hb.mono B_11.out.size))
      have d_12 := Lib.hid (d_11.out.on hb)
      have s_12 := Lib.hid (s_11.out.on hb)
      have x_12 := Lib.hid (x_11.out.on hb)
      have y_12 := Lib.hid (y_11.out.on hb)
      have u_12 := Lib.hid (u_11.out.on hb)
      have v_12 := Lib.hid (v_11.out.on hb)
      clear T_11 B_11 d_11 s_11 x_11 y_11 u_11 v_11
      clear hb
      have hbn : Below w12.heap.size w12 (w12.alloc (.cells #[.int .u64 s.q, .int .u64 s.b, .int .u64 s.i, .int .u64 s.e, .int .i64 s.u] 26)) := (Below.refl _ _).alloc (Nat.le_refl _) _
      have T_13 := Lib.hid (T_12.out.on hbn)
      have B_13 := Lib.hid (B_12.out.trans (hbn.mono B_12.out.size))
      have d_13 := Lib.hid (d_12.out.on hbn)
      have s_13 := Lib.hid (s_12.out.on hbn)
      have x_13 := Lib.hid (x_12.out.on hbn)
      have y_13 := Lib.hid (y_12.out.on hbn)
      have u_13 := Lib.hid (u_12.out.on hbn)
      have v_13 := Lib.hid (v_12.out.on hbn)
      clear T_12 B_12 d_12 s_12 x_12 y_12 u_12 v_12
      have z_13 : Hid (SvA (w12.alloc (.cells #[.int .u64 s.q, .int .u64 s.b, .int .u64 s.i, .int .u64 s.e, .int .i64 s.u] 26)) w12.heap.size s) := Lib.hid (SvA.new w12 s _)
      clear hbn
      go_upto_region 14 with (fail)
      generalize w12.alloc (.cells #[.int .u64 s.q, .int .u64 s.b, .int .u64 s.i, .int .u64 s.e, .int .i64 s.u] 26) = w13 at *
      generalize w12.heap.size = gz at *
      obtain ⟨s0, s1, s2, s3, s4⟩ := s_13.out
      try simp only at s0 s1 s2 s3 s4
      go_wp2_with fail
      refine (HR.out _).mono ?_
      rintro e w14 ⟨rfl, hb⟩
      clear s0 s1 s2 s3 s4
      have T_14 := Lib.hid (T_13.out.on hb)
      have B_14 := Lib.hid (B_13.out.trans (hb.mono B_13.out.size))
      have d_14 := Lib.hid (d_13.out.on hb)
      have s_14 := Lib.hid (s_13.out.on hb)
      have x_14 := Lib.hid (x_13.out.on hb)
      have y_14 := Lib.hid (y_13.out.on hb)
      have u_14 := Lib.hid (u_13.out.on hb)
      have v_14 := Lib.hid (v_13.out.on hb)
      have z_14 := Lib.hid (z_13.out.on hb)
      clear T_13 B_13 d_13 s_13 x_13 y_13 u_13 v_13 z_13
      clear hb
      obtain ⟨s0, s1, s2, s3, s4⟩ := s_14.out
      try simp only at s0 s1 s2 s3 s4
      obtain ⟨z0, z1, z2, z3, z4⟩ := z_14.out
      try simp only at z0 z1 z2 z3 z4
      go_wp2_with fail
      refine (HAW.out _ T_14.out).mono ?_
      rintro e w15 ⟨rfl, hb⟩
      clear z0 z1 z2 z3 z4
      clear s0 s1 s2 s3 s4
      have T_15 := Lib.hid (T_14.out.on hb)
      have B_15 := Lib.hid (B_14.out.trans (hb.mono B_14.out.size))
      have d_15 := Lib.hid (d_14.out.on hb)
      have s_15 := Lib.hid (s_14.out.on hb)
      have x_15 := Lib.hid (x_14.out.on hb)
      have y_15 := Lib.hid (y_14.out.on hb)
      have u_15 := Lib.hid (u_14.out.on hb)
      have v_15 := Lib.hid (v_14.out.on hb)
      have z_15 := Lib.hid (z_14.out.on hb)
      clear T_14 B_14 d_14 s_14 x_14 y_14 u_14 v_14 z_14
      clear hb
      go_wp2_with fail
      go_ret
      exact ⟨rfl, B_15.out⟩

theorem parOk : ∀ t ∈ (#[9, 23, 26] : Array TypeId).toList, Tryd.prog.readableRec t = true ∧ t < Tryd.prog.types.size := by
  have hall : ([9, 23, 26].all fun t => Tryd.prog.readableRec t && decide (t < Tryd.prog.types.size)) = true := by kernel_rfl
  intro t ht
  simpa using List.all_eq_true.1 hall t ht

/-- What the walk gives, for every argument and every world that holds the table. -/
theorem contract (H : Type) (enc : TypeId × Value → H) (W : World) (base : Nat) (args : Array Value) (ds gs : List (DataW H)) (before : List MemPlace)
    (hval : ∀ (j : Nat) t v, Tryd.f3.params[j]? = some t → args[j]? = some v → Value.okWide Tryd.prog W .any base t v)
    (hW : DataW.Whole enc Tryd.prog Tryd.f3.params.toList Rows.diskReadsSpec.vars false W args.toList ds gs before) (hL : laidMetH Tryd.prog Rows.diskReadsRow.laid W) :
    Calls Tryd.prog 3 args W fun e W' => ∃ v, e = .returned v ∧ Rows.diskReadsSpec.post enc Tryd.prog Tryd.f3 false true false false W args v W' := by
  have hW' := hW
  obtain ⟨p, q, hA0, hV, rfl, hfz, hnd⟩ := hW
  have hA : DataW.TrodAll enc Tryd.prog W 0 (fun _ => true) true Tryd.f3.params.toList args.toList ds p := hA0
  rw [Tryd.params3] at hA hval
  obtain ⟨v0, vs0, d0, ds0, p0, q0, hargs, rfl, rfl, h0, r0⟩ := trodAll_cons hA
  obtain ⟨v1, vs1, d1, ds1, p1, q1, rfl, rfl, rfl, h1, r1⟩ := trodAll_cons r0
  obtain ⟨v2, vs2, d2, ds2, p2, q2, rfl, rfl, rfl, h2, r2⟩ := trodAll_cons r1
  obtain ⟨rfl, rfl, rfl⟩ := trodAll_nil r2
  obtain rfl : args = #[v0, v1, v2] := by cases args; simp_all
  obtain ⟨rfl, rfl⟩ := trodVars_none hV
  obtain ⟨t, rfl, rfl, rfl, hst⟩ := open_string Tryd.underlying9 (hval 0 9 v0 rfl rfl) h0
  obtain ⟨d, rfl, ha, hb⟩ := open_disk (hval 1 23 v1 rfl rfl) h1
  obtain ⟨s, rfl, hf⟩ := open_saved (hval 2 26 v2 rfl rfl) h2
  clear hA0
  refine (walk t d s W hst ha hb hf (tab_of_laid hL)).mono fun e W' ⟨he, hb⟩ => ?_
  subst he
  exact ⟨_, rfl, law_post rfl (by rw [Tryd.params3]; exact parOk) rfl hW' rfl rfl rfl hb⟩

theorem laid_met (os : Os) : laidMet Tryd.prog Rows.diskReadsRow.laid ((laidWorld os).forCall (fun _ _ => 0) ⟨#[], #[.string ⟨#[]⟩, .agg #[.string ⟨#[]⟩, .string ⟨#[]⟩], .agg #[.int .u64 0, .int .u64 0, .int .u64 0, .int .u64 0, .int .i64 0]], []⟩).memory :=
  laidMet_of_run' 8 (by kernel_rfl) (by kernel_rfl)
theorem reads (os : Os) {H : Type} (enc : TypeId × Value → H) : ∃ places, DataW.whole enc Tryd.prog ((laidWorld os).forCall (fun _ _ => 0) ⟨#[], #[.string ⟨#[]⟩, .agg #[.string ⟨#[]⟩, .string ⟨#[]⟩], .agg #[.int .u64 0, .int .u64 0, .int .u64 0, .int .u64 0, .int .i64 0]], []⟩).memory Tryd.f3.params.toList Rows.diskReadsSpec.vars false (#[.string ⟨#[]⟩, .agg #[.string ⟨#[]⟩, .string ⟨#[]⟩], .agg #[.int .u64 0, .int .u64 0, .int .u64 0, .int .u64 0, .int .i64 0]] : Array Value).toList 8 = some ([.lit (.string []), .agg [.lit (.string []), .lit (.string [])], .agg [.lit (.int .u64 0), .lit (.int .u64 0), .lit (.int .u64 0), .lit (.int .u64 0), .lit (.int .i64 0)]], [], places) :=
  ⟨[], by kernel_rfl⟩

set_option maxRecDepth 100000 in
theorem lifted (os : Os) (started : os.Started) (H : Type) (enc : TypeId × Value → H) (F : Stop.Interp) :
    ReturnsInHanded {} Tryd.checked os 3 .any ((OpenSpec.ofChange Rows.diskReadsSpec).preRow enc Tryd.prog Tryd.f3 Rows.diskReadsRow.domain false Rows.diskReadsRow.laid) (((OpenSpec.ofChange Rows.diskReadsSpec).at F).post enc Tryd.prog Tryd.f3 false true false false) := by
  obtain ⟨places, hx⟩ := reads os enc
  refine returnsInHanded_of_row (C := Tryd.checked) (s := OpenSpec.ofChange Rows.diskReadsSpec) own started (by kernel_rfl) Tryd.func3
    (witness_row_at (enc := enc) (C := Tryd.checked) false (laidWorld os) #[.string ⟨#[]⟩, .agg #[.string ⟨#[]⟩, .string ⟨#[]⟩], .agg #[.int .u64 0, .int .u64 0, .int .u64 0, .int .u64 0, .int .i64 0]] rfl (by kernel_rfl) (by kernel_rfl) (by kernel_rfl)
      (OpenSpec.preRow_of_cond 8 hx (by kernel_rfl) (fun k hk => by cases hk) (by kernel_rfl) (laid_met os))) ?_
  intro W base args ds gs before hval hW _ _ _ hL _ _
  exact contract H enc W base args ds gs before hval hW hL

theorem said : Rows.DiskReadsSaid :=
  OpenClaim.holds_of_cond 3 Tryd.f3 rfl rfl rfl rfl rfl rfl rfl ⟨rfl, rfl, rfl, rfl, rfl⟩ rfl rfl rfl rfl rfl (by kernel_rfl) Tryd.func3 (by kernel_rfl)
    (of_decide_eq_true (by kernel_rfl)) (by unfold Func.isWrapper; first | (rw [if_pos (by decide +kernel)]; kernel_rfl) | (rw [if_neg (by decide +kernel)]; exact ⟨rfl, rfl⟩))
    (fun os started H enc _ F => by rw [OpenClaim.pre_eq_preRow]; exact lifted os started H enc F)

/-- No parameter wants a stand-in; the program's own looks are off. -/
theorem plain (f : FuncId) (fn : Func) (hf : Tryd.pinned.checked.prog.funcNamed "tattle/tattlelaw16.DiskReads" = some f) (hfn : Tryd.pinned.checked.prog.funcs[f]? = some fn) :
    false = Tryd.pinned.checked.prog.looks [] ∧ ∀ (j : Nat) t, fn.params[j]? = some t → Tryd.pinned.checked.prog.wantsStandIn t = false := by
  obtain rfl : f = 3 := Option.some.inj ((show Tryd.prog.funcNamed "tattle/tattlelaw16.DiskReads" = some 3 by kernel_rfl).symm.trans hf) |>.symm
  obtain rfl : fn = Tryd.f3 := (Option.some.inj (Tryd.func3.symm.trans hfn)).symm
  refine ⟨by kernel_rfl, fun j t ht => ?_⟩
  rw [Tryd.params3] at ht
  have hm : t ∈ [9, 23, 26] := by simpa using Array.mem_of_getElem? ht
  have hall : ([9, 23, 26].all fun u => !Tryd.prog.wantsStandIn u) = true := by kernel_rfl
  exact (show Tryd.prog.wantsStandIn t = false by simpa using List.all_eq_true.1 hall t hm)

/-- THE CARD. -/
theorem card : Rows.DiskReadsCardSaid :=
  Claim7.holds_tied_plain_at .later [] _ _ _ _ said (fun _ h => by cases h) (by kernel_rfl) (fun _ h => by cases h) diskReads_row_tie rfl ⟨rfl, rfl⟩ (by kernel_rfl) rfl plain (by kernel_rfl)
end Go.Proofs.YtlpnhpnigljlnaaDoor.lawReads
