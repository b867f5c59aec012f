/-
  The walk of the document's Tear.
-/
import Derived.Test.YtlpnhpnigljlnaaDoorTr
namespace Go.Proofs.YtlpnhpnigljlnaaDoor
open Go.Sort Go.RowKit Go.Proofs.YtlpnhpnigljlnaaDoor.Pure

set_option maxRecDepth 100000 in
set_option maxHeartbeats 4000000 in
theorem rtear_neg (d : Dk) (s : Sv) (c : Int) (w : World) (_ : d.a.size ≤ 140737488351232) (_ : d.b.size ≤ 140737488351232) (hc : c < 0) (hm : mayB s = true) : Calls Tryd.prog 19 #[.agg #[.string d.a, .string d.b], .agg #[.int .u64 s.q, .int .u64 s.b, .int .u64 s.i, .int .u64 s.e, .int .i64 s.u], .int .i64 c] w fun e w' => e = .returned (.tuple #[.agg #[.string d.a, .string d.b], .int .i64 1]) ∧ Below w.heap.size w w' := by
  have HM := Lib.hid (fun W => rmay_any s W)
  rw [hm] at HM
  have HD1 : Hid (DkW (((w.alloc (.cells #[.string d.a, .string d.b] 23)).alloc (.cells #[.int .u64 s.q, .int .u64 s.b, .int .u64 s.i, .int .u64 s.e, .int .i64 s.u] 26)).alloc (.cells #[.string ⟨#[]⟩, .string ⟨#[]⟩] 23)) w.heap.size d) := Lib.hid (((DkW.new w d _).on ((Below.refl _ _).alloc (Nat.le_refl _) _)).on ((Below.refl _ _).alloc (Nat.le_refl _) _))
  have HS1 : Hid (SvW (((w.alloc (.cells #[.string d.a, .string d.b] 23)).alloc (.cells #[.int .u64 s.q, .int .u64 s.b, .int .u64 s.i, .int .u64 s.e, .int .i64 s.u] 26)).alloc (.cells #[.string ⟨#[]⟩, .string ⟨#[]⟩] 23)) (w.heap.size + 1) s) := Lib.hid (by
    have h := (SvW.new (w.alloc (.cells #[.string d.a, .string d.b] 23)) s 26).on ((Below.refl _ _).alloc (Nat.le_refl _) (.cells #[.string ⟨#[]⟩, .string ⟨#[]⟩] 23))
    simpa using h)
  have HR1 : Hid (DkW (((w.alloc (.cells #[.string d.a, .string d.b] 23)).alloc (.cells #[.int .u64 s.q, .int .u64 s.b, .int .u64 s.i, .int .u64 s.e, .int .i64 s.u] 26)).alloc (.cells #[.string ⟨#[]⟩, .string ⟨#[]⟩] 23)) (w.heap.size + 2) ⟨⟨#[]⟩, ⟨#[]⟩⟩) := Lib.hid (by
    have h := DkW.new ((w.alloc (.cells #[.string d.a, .string d.b] 23)).alloc (.cells #[.int .u64 s.q, .int .u64 s.b, .int .u64 s.i, .int .u64 s.e, .int .i64 s.u] 26)) ⟨⟨#[]⟩, ⟨#[]⟩⟩ 23
    simpa using h)
  have HB1 : Hid (Below w.heap.size w (((w.alloc (.cells #[.string d.a, .string d.b] 23)).alloc (.cells #[.int .u64 s.q, .int .u64 s.b, .int .u64 s.i, .int .u64 s.e, .int .i64 s.u] 26)).alloc (.cells #[.string ⟨#[]⟩, .string ⟨#[]⟩] 23))) := Lib.hid ((((Below.refl _ _).alloc (Nat.le_refl _) _).alloc (by simp) _).alloc (by simp; omega) _)
  have c1 : decide (c < 0) = true := decide_eq_true hc
  clear hc hm
  go_enter Tryd.func19, Tryd.ntmps19
  go_upto_region 1 with (fail)
  generalize ((w.alloc (.cells #[.string d.a, .string d.b] 23)).alloc (.cells #[.int .u64 s.q, .int .u64 s.b, .int .u64 s.i, .int .u64 s.e, .int .i64 s.u] 26)).alloc (.cells #[.string ⟨#[]⟩, .string ⟨#[]⟩] 23) = w1 at *
  obtain ⟨⟨d0, d1⟩, df⟩ := HD1.out
  obtain ⟨⟨s0, s1, s2, s3, s4⟩, sf⟩ := HS1.out
  obtain ⟨⟨r0, r1⟩, rf⟩ := HR1.out
  try simp only at r0 r1 s0 s1 s2 s3 s4 d0 d1
  go_wp2_with fail
  refine (HM.out _).mono ?_
  rintro e w2 ⟨rfl, hb2⟩
  clear d0 d1 df s0 s1 s2 s3 s4 sf r0 r1 rf
  have HD2 := Lib.hid (HD1.out.on hb2)
  have HS2 := Lib.hid (HS1.out.on hb2)
  have HR2 := Lib.hid (HR1.out.on hb2)
  have HB2 := Lib.hid (HB1.out.trans (hb2.mono HB1.out.size))
  clear hb2 HD1 HS1 HR1 HB1
  obtain ⟨⟨d0, d1⟩, df⟩ := HD2.out
  obtain ⟨⟨s0, s1, s2, s3, s4⟩, sf⟩ := HS2.out
  obtain ⟨⟨r0, r1⟩, rf⟩ := HR2.out
  try simp only at r0 r1 s0 s1 s2 s3 s4 d0 d1
  have HF := Lib.hid (HR2.out.set d)
  have HBf := Lib.hid (below_set2 HB2.out (show w.heap.size ≤ w.heap.size + 2 by omega) (.string (d).a) (.string (d).b))
  try simp only at HF HBf
  go_wp2_with fail
  clear d0 d1 df s0 s1 s2 s3 s4 sf r0 r1 rf
  generalize hwf : World.setCell _ _ _ = wf
  rw [hwf] at HF HBf
  obtain ⟨⟨r0, r1⟩, rf⟩ := HF.out
  try simp only at r0 r1
  exact bodyPost_ret (v := .tuple #[.agg #[.string d.a, .string d.b], .int .i64 1]) (by simp [results, Tryd.results19, go_sem, r0, r1]) rfl ⟨rfl, HBf.out⟩
set_option maxRecDepth 100000 in
set_option maxHeartbeats 4000000 in
theorem rtear_may (d : Dk) (s : Sv) (c : Int) (w : World) (_ : d.a.size ≤ 140737488351232) (_ : d.b.size ≤ 140737488351232) (hm : mayB s = false) : Calls Tryd.prog 19 #[.agg #[.string d.a, .string d.b], .agg #[.int .u64 s.q, .int .u64 s.b, .int .u64 s.i, .int .u64 s.e, .int .i64 s.u], .int .i64 c] w fun e w' => e = .returned (.tuple #[.agg #[.string d.a, .string d.b], .int .i64 1]) ∧ Below w.heap.size w w' := by
  have HM := Lib.hid (fun W => rmay_any s W)
  rw [hm] at HM
  have HD1 : Hid (DkW (((w.alloc (.cells #[.string d.a, .string d.b] 23)).alloc (.cells #[.int .u64 s.q, .int .u64 s.b, .int .u64 s.i, .int .u64 s.e, .int .i64 s.u] 26)).alloc (.cells #[.string ⟨#[]⟩, .string ⟨#[]⟩] 23)) w.heap.size d) := Lib.hid (((DkW.new w d _).on ((Below.refl _ _).alloc (Nat.le_refl _) _)).on ((Below.refl _ _).alloc (Nat.le_refl _) _))
  have HS1 : Hid (SvW (((w.alloc (.cells #[.string d.a, .string d.b] 23)).alloc (.cells #[.int .u64 s.q, .int .u64 s.b, .int .u64 s.i, .int .u64 s.e, .int .i64 s.u] 26)).alloc (.cells #[.string ⟨#[]⟩, .string ⟨#[]⟩] 23)) (w.heap.size + 1) s) := Lib.hid (by
    have h := (SvW.new (w.alloc (.cells #[.string d.a, .string d.b] 23)) s 26).on ((Below.refl _ _).alloc (Nat.le_refl _) (.cells #[.string ⟨#[]⟩, .string ⟨#[]⟩] 23))
    simpa using h)
  have HR1 : Hid (DkW (((w.alloc (.cells #[.string d.a, .string d.b] 23)).alloc (.cells #[.int .u64 s.q, .int .u64 s.b, .int .u64 s.i, .int .u64 s.e, .int .i64 s.u] 26)).alloc (.cells #[.string ⟨#[]⟩, .string ⟨#[]⟩] 23)) (w.heap.size + 2) ⟨⟨#[]⟩, ⟨#[]⟩⟩) := Lib.hid (by
    have h := DkW.new ((w.alloc (.cells #[.string d.a, .string d.b] 23)).alloc (.cells #[.int .u64 s.q, .int .u64 s.b, .int .u64 s.i, .int .u64 s.e, .int .i64 s.u] 26)) ⟨⟨#[]⟩, ⟨#[]⟩⟩ 23
    simpa using h)
  have HB1 : Hid (Below w.heap.size w (((w.alloc (.cells #[.string d.a, .string d.b] 23)).alloc (.cells #[.int .u64 s.q, .int .u64 s.b, .int .u64 s.i, .int .u64 s.e, .int .i64 s.u] 26)).alloc (.cells #[.string ⟨#[]⟩, .string ⟨#[]⟩] 23))) := Lib.hid ((((Below.refl _ _).alloc (Nat.le_refl _) _).alloc (by simp) _).alloc (by simp; omega) _)
  clear hm
  go_enter Tryd.func19, Tryd.ntmps19
  go_upto_region 1 with (fail)
  generalize ((w.alloc (.cells #[.string d.a, .string d.b] 23)).alloc (.cells #[.int .u64 s.q, .int .u64 s.b, .int .u64 s.i, .int .u64 s.e, .int .i64 s.u] 26)).alloc (.cells #[.string ⟨#[]⟩, .string ⟨#[]⟩] 23) = w1 at *
  obtain ⟨⟨d0, d1⟩, df⟩ := HD1.out
  obtain ⟨⟨s0, s1, s2, s3, s4⟩, sf⟩ := HS1.out
  obtain ⟨⟨r0, r1⟩, rf⟩ := HR1.out
  try simp only at r0 r1 s0 s1 s2 s3 s4 d0 d1
  go_wp2_with fail
  refine (HM.out _).mono ?_
  rintro e w2 ⟨rfl, hb2⟩
  clear d0 d1 df s0 s1 s2 s3 s4 sf r0 r1 rf
  have HD2 := Lib.hid (HD1.out.on hb2)
  have HS2 := Lib.hid (HS1.out.on hb2)
  have HR2 := Lib.hid (HR1.out.on hb2)
  have HB2 := Lib.hid (HB1.out.trans (hb2.mono HB1.out.size))
  clear hb2 HD1 HS1 HR1 HB1
  obtain ⟨⟨d0, d1⟩, df⟩ := HD2.out
  obtain ⟨⟨s0, s1, s2, s3, s4⟩, sf⟩ := HS2.out
  obtain ⟨⟨r0, r1⟩, rf⟩ := HR2.out
  try simp only at r0 r1 s0 s1 s2 s3 s4 d0 d1
  have HF := Lib.hid (HR2.out.set d)
  have HBf := Lib.hid (below_set2 HB2.out (show w.heap.size ≤ w.heap.size + 2 by omega) (.string (d).a) (.string (d).b))
  try simp only at HF HBf
  go_wp2_with fail
  clear d0 d1 df s0 s1 s2 s3 s4 sf r0 r1 rf
  generalize hwf : World.setCell _ _ _ = wf
  rw [hwf] at HF HBf
  obtain ⟨⟨r0, r1⟩, rf⟩ := HF.out
  try simp only at r0 r1
  exact bodyPost_ret (v := .tuple #[.agg #[.string d.a, .string d.b], .int .i64 1]) (by simp [results, Tryd.results19, go_sem, r0, r1]) rfl ⟨rfl, HBf.out⟩
set_option maxRecDepth 100000 in
set_option maxHeartbeats 4000000 in
theorem rtear_big (d : Dk) (s : Sv) (c : Int) (w : World) (ha : d.a.size ≤ 140737488351232) (hb : d.b.size ≤ 140737488351232) (hc : ¬ c < 0) (hm : mayB s = true) (hq : (hasS d).q = 18446744073709551615) : Calls Tryd.prog 19 #[.agg #[.string d.a, .string d.b], .agg #[.int .u64 s.q, .int .u64 s.b, .int .u64 s.i, .int .u64 s.e, .int .i64 s.u], .int .i64 c] w fun e w' => e = .returned (.tuple #[.agg #[.string d.a, .string d.b], .int .i64 4]) ∧ Below w.heap.size w w' := by
  have HM := Lib.hid (fun W => rmay_any s W)
  rw [hm] at HM
  have HH := Lib.hid (fun (W : World) => rread_any d W ha hb)
  have HD1 : Hid (DkW (((w.alloc (.cells #[.string d.a, .string d.b] 23)).alloc (.cells #[.int .u64 s.q, .int .u64 s.b, .int .u64 s.i, .int .u64 s.e, .int .i64 s.u] 26)).alloc (.cells #[.string ⟨#[]⟩, .string ⟨#[]⟩] 23)) w.heap.size d) := Lib.hid (((DkW.new w d _).on ((Below.refl _ _).alloc (Nat.le_refl _) _)).on ((Below.refl _ _).alloc (Nat.le_refl _) _))
  have HS1 : Hid (SvW (((w.alloc (.cells #[.string d.a, .string d.b] 23)).alloc (.cells #[.int .u64 s.q, .int .u64 s.b, .int .u64 s.i, .int .u64 s.e, .int .i64 s.u] 26)).alloc (.cells #[.string ⟨#[]⟩, .string ⟨#[]⟩] 23)) (w.heap.size + 1) s) := Lib.hid (by
    have h := (SvW.new (w.alloc (.cells #[.string d.a, .string d.b] 23)) s 26).on ((Below.refl _ _).alloc (Nat.le_refl _) (.cells #[.string ⟨#[]⟩, .string ⟨#[]⟩] 23))
    simpa using h)
  have HR1 : Hid (DkW (((w.alloc (.cells #[.string d.a, .string d.b] 23)).alloc (.cells #[.int .u64 s.q, .int .u64 s.b, .int .u64 s.i, .int .u64 s.e, .int .i64 s.u] 26)).alloc (.cells #[.string ⟨#[]⟩, .string ⟨#[]⟩] 23)) (w.heap.size + 2) ⟨⟨#[]⟩, ⟨#[]⟩⟩) := Lib.hid (by
    have h := DkW.new ((w.alloc (.cells #[.string d.a, .string d.b] 23)).alloc (.cells #[.int .u64 s.q, .int .u64 s.b, .int .u64 s.i, .int .u64 s.e, .int .i64 s.u] 26)) ⟨⟨#[]⟩, ⟨#[]⟩⟩ 23
    simpa using h)
  have HB1 : Hid (Below w.heap.size w (((w.alloc (.cells #[.string d.a, .string d.b] 23)).alloc (.cells #[.int .u64 s.q, .int .u64 s.b, .int .u64 s.i, .int .u64 s.e, .int .i64 s.u] 26)).alloc (.cells #[.string ⟨#[]⟩, .string ⟨#[]⟩] 23))) := Lib.hid ((((Below.refl _ _).alloc (Nat.le_refl _) _).alloc (by simp) _).alloc (by simp; omega) _)
  have c1 : decide (c < 0) = false := decide_eq_false hc
  have q1 : ((hasS d).q == 18446744073709551615) = true := by rw [hq]; rfl
  clear hc hm hq
  generalize reaE d = RE at *
  skip
  generalize hasS d = S at *
  go_enter Tryd.func19, Tryd.ntmps19
  go_upto_region 1 with (fail)
  generalize ((w.alloc (.cells #[.string d.a, .string d.b] 23)).alloc (.cells #[.int .u64 s.q, .int .u64 s.b, .int .u64 s.i, .int .u64 s.e, .int .i64 s.u] 26)).alloc (.cells #[.string ⟨#[]⟩, .string ⟨#[]⟩] 23) = w1 at *
  obtain ⟨⟨d0, d1⟩, df⟩ := HD1.out
  obtain ⟨⟨s0, s1, s2, s3, s4⟩, sf⟩ := HS1.out
  obtain ⟨⟨r0, r1⟩, rf⟩ := HR1.out
  try simp only at r0 r1 s0 s1 s2 s3 s4 d0 d1
  go_wp2_with fail
  refine (HM.out _).mono ?_
  rintro e w2 ⟨rfl, hb2⟩
  clear d0 d1 df s0 s1 s2 s3 s4 sf r0 r1 rf
  have HD2 := Lib.hid (HD1.out.on hb2)
  have HS2 := Lib.hid (HS1.out.on hb2)
  have HR2 := Lib.hid (HR1.out.on hb2)
  have HB2 := Lib.hid (HB1.out.trans (hb2.mono HB1.out.size))
  clear hb2 HD1 HS1 HR1 HB1
  obtain ⟨⟨d0, d1⟩, df⟩ := HD2.out
  obtain ⟨⟨s0, s1, s2, s3, s4⟩, sf⟩ := HS2.out
  obtain ⟨⟨r0, r1⟩, rf⟩ := HR2.out
  try simp only at r0 r1 s0 s1 s2 s3 s4 d0 d1
  clear HM
  go_wp2_with fail
  refine (HH.out _).mono ?_
  rintro e w3 ⟨rfl, hb3⟩
  clear d0 d1 df s0 s1 s2 s3 s4 sf r0 r1 rf
  have HD3 := Lib.hid (HD2.out.on hb3)
  have HS3 := Lib.hid (HS2.out.on hb3)
  have HR3 := Lib.hid (HR2.out.on hb3)
  have HB3 := Lib.hid (HB2.out.trans (hb3.mono HB2.out.size))
  clear hb3 HD2 HS2 HR2 HB2
  clear HH
  have hg : w.heap.size + 2 < w3.heap.size := HR3.out.lt
  have hbn : Below w3.heap.size w3 (w3.alloc (.cells #[.int .u64 S.q, .int .u64 S.b, .int .u64 S.i, .int .u64 S.e, .int .i64 S.u] 26)) := (Below.refl _ _).alloc (Nat.le_refl _) _
  have HFd := Lib.hid (SvA.new w3 S 26)
  have HD4 := Lib.hid (HD3.out.on hbn)
  have HS4 := Lib.hid (HS3.out.on hbn)
  have HR4 := Lib.hid (HR3.out.on hbn)
  have HB4 := Lib.hid (HB3.out.trans (hbn.mono HB3.out.size))
  clear hbn HD3 HS3 HR3 HB3
  obtain ⟨⟨d0, d1⟩, df⟩ := HD4.out
  obtain ⟨⟨s0, s1, s2, s3, s4⟩, sf⟩ := HS4.out
  obtain ⟨⟨r0, r1⟩, rf⟩ := HR4.out
  try simp only at r0 r1 s0 s1 s2 s3 s4 d0 d1
  skip
  go_upto_region 4 with (fail)
  generalize w3.alloc (.cells #[.int .u64 S.q, .int .u64 S.b, .int .u64 S.i, .int .u64 S.e, .int .i64 S.u] 26) = w4 at *
  generalize w3.heap.size = gf at *
  obtain ⟨f1, f2, f3, f4, f5⟩ := HFd.out
  have HF := Lib.hid (HR4.out.set d)
  have HBf := Lib.hid (below_set2 HB4.out (show w.heap.size ≤ w.heap.size + 2 by omega) (.string (d).a) (.string (d).b))
  try simp only at HF HBf
  go_wp2_with fail
  clear d0 d1 df s0 s1 s2 s3 s4 sf r0 r1 rf
  generalize hwf : World.setCell _ _ _ = wf
  rw [hwf] at HF HBf
  obtain ⟨⟨r0, r1⟩, rf⟩ := HF.out
  try simp only at r0 r1
  exact bodyPost_ret (v := .tuple #[.agg #[.string d.a, .string d.b], .int .i64 4]) (by simp [results, Tryd.results19, go_sem, r0, r1]) rfl ⟨rfl, HBf.out⟩
set_option maxRecDepth 100000 in
set_option maxHeartbeats 4000000 in
theorem rtear_ok (d : Dk) (s : Sv) (c : Nat) (w : World) (ha : d.a.size ≤ 140737488351232) (hb : d.b.size ≤ 140737488351232) (hc : c ≤ 9223372036854775807) (hf : FitS s) (hm : mayB s = true) (hq : ¬ (hasS d).q = 18446744073709551615) : Calls Tryd.prog 19 #[.agg #[.string d.a, .string d.b], .agg #[.int .u64 s.q, .int .u64 s.b, .int .u64 s.i, .int .u64 s.e, .int .i64 s.u], .int .i64 c] w fun e w' => e = .returned (.tuple #[.agg #[.string (teaD layC parC d s c).a, .string (teaD layC parC d s c).b], .int .i64 0]) ∧ Below w.heap.size w w' := by
  have HM := Lib.hid (fun W => rmay_any s W)
  rw [hm] at HM
  have HH := Lib.hid (fun (W : World) => rread_any d W ha hb)
  have HD1 : Hid (DkW (((w.alloc (.cells #[.string d.a, .string d.b] 23)).alloc (.cells #[.int .u64 s.q, .int .u64 s.b, .int .u64 s.i, .int .u64 s.e, .int .i64 s.u] 26)).alloc (.cells #[.string ⟨#[]⟩, .string ⟨#[]⟩] 23)) w.heap.size d) := Lib.hid (((DkW.new w d _).on ((Below.refl _ _).alloc (Nat.le_refl _) _)).on ((Below.refl _ _).alloc (Nat.le_refl _) _))
  have HS1 : Hid (SvW (((w.alloc (.cells #[.string d.a, .string d.b] 23)).alloc (.cells #[.int .u64 s.q, .int .u64 s.b, .int .u64 s.i, .int .u64 s.e, .int .i64 s.u] 26)).alloc (.cells #[.string ⟨#[]⟩, .string ⟨#[]⟩] 23)) (w.heap.size + 1) s) := Lib.hid (by
    have h := (SvW.new (w.alloc (.cells #[.string d.a, .string d.b] 23)) s 26).on ((Below.refl _ _).alloc (Nat.le_refl _) (.cells #[.string ⟨#[]⟩, .string ⟨#[]⟩] 23))
    simpa using h)
  have HR1 : Hid (DkW (((w.alloc (.cells #[.string d.a, .string d.b] 23)).alloc (.cells #[.int .u64 s.q, .int .u64 s.b, .int .u64 s.i, .int .u64 s.e, .int .i64 s.u] 26)).alloc (.cells #[.string ⟨#[]⟩, .string ⟨#[]⟩] 23)) (w.heap.size + 2) ⟨⟨#[]⟩, ⟨#[]⟩⟩) := Lib.hid (by
    have h := DkW.new ((w.alloc (.cells #[.string d.a, .string d.b] 23)).alloc (.cells #[.int .u64 s.q, .int .u64 s.b, .int .u64 s.i, .int .u64 s.e, .int .i64 s.u] 26)) ⟨⟨#[]⟩, ⟨#[]⟩⟩ 23
    simpa using h)
  have HB1 : Hid (Below w.heap.size w (((w.alloc (.cells #[.string d.a, .string d.b] 23)).alloc (.cells #[.int .u64 s.q, .int .u64 s.b, .int .u64 s.i, .int .u64 s.e, .int .i64 s.u] 26)).alloc (.cells #[.string ⟨#[]⟩, .string ⟨#[]⟩] 23))) := Lib.hid ((((Below.refl _ _).alloc (Nat.le_refl _) _).alloc (by simp) _).alloc (by simp; omega) _)
  have hO := nex_O (d := d) hf hm hq
  have hts := layC_size (nexD parC d s)
  have HL := Lib.hid (fun (W : World) => rlay_yes (nexD parC d s) W hO)
  have hte : teaD layC parC d s c = intD parC d (cutD (layC (nexD parC d s)) c) := rfl
  rw [nex_is] at HL hte
  simp only at HL
  have hcut := cut_is (layC (nexD parC d s)) c
  rw [nex_is] at hcut hts
  obtain ⟨R, hR⟩ : ∃ R, R = teaD layC parC d s c := ⟨_, rfl⟩
  rw [← hR]
  rw [hte] at hR
  generalize layC ⟨(hasS d).q + 1, s.b, s.i, s.e, s.u⟩ = T at *
  generalize cutD T c = U at *
  have hq0 := (hasS_O d).q
  have e64 : (2 : Int) ^ 64 = 18446744073709551616 := by decide
  have q1 : ((hasS d).q == 18446744073709551615) = false := by simpa using hq
  have q2 : IntKind.u64.wrap ((hasS d).q + 1) = (hasS d).q + 1 := IntWalk.u64_in _ (by omega)
  have H3 := Lib.hid (tea_three d)
  have c1 : decide ((c : Int) < 0) = false := decide_eq_false (by omega)
  have HSE := Lib.hid (fun (W : World) => second_any d W ha hb)
  have HO := Lib.hid (show reaE d = if hasO d = true then 0 else 6 from rfl)
  generalize reaE d = RE at *
  generalize hS : hasS d = S at *
  have HSs := Lib.hid hS
  generalize hO2 : hasO d = O at *
  clear hO hte hq hm hf hq0 e64 hS hO2
  have HRR := Lib.hid hR
  have HCU := Lib.hid hcut
  clear hR hcut
  go_enter Tryd.func19, Tryd.ntmps19
  go_upto_region 1 with (fail)
  generalize ((w.alloc (.cells #[.string d.a, .string d.b] 23)).alloc (.cells #[.int .u64 s.q, .int .u64 s.b, .int .u64 s.i, .int .u64 s.e, .int .i64 s.u] 26)).alloc (.cells #[.string ⟨#[]⟩, .string ⟨#[]⟩] 23) = w1 at *
  obtain ⟨⟨d0, d1⟩, df⟩ := HD1.out
  obtain ⟨⟨s0, s1, s2, s3, s4⟩, sf⟩ := HS1.out
  obtain ⟨⟨r0, r1⟩, rf⟩ := HR1.out
  try simp only at r0 r1 s0 s1 s2 s3 s4 d0 d1
  go_wp2_with fail
  refine (HM.out _).mono ?_
  rintro e w2 ⟨rfl, hb2⟩
  clear d0 d1 df s0 s1 s2 s3 s4 sf r0 r1 rf
  have HD2 := Lib.hid (HD1.out.on hb2)
  have HS2 := Lib.hid (HS1.out.on hb2)
  have HR2 := Lib.hid (HR1.out.on hb2)
  have HB2 := Lib.hid (HB1.out.trans (hb2.mono HB1.out.size))
  clear hb2 HD1 HS1 HR1 HB1
  obtain ⟨⟨d0, d1⟩, df⟩ := HD2.out
  obtain ⟨⟨s0, s1, s2, s3, s4⟩, sf⟩ := HS2.out
  obtain ⟨⟨r0, r1⟩, rf⟩ := HR2.out
  try simp only at r0 r1 s0 s1 s2 s3 s4 d0 d1
  clear HM
  go_wp2_with fail
  refine (HH.out _).mono ?_
  rintro e w3 ⟨rfl, hb3⟩
  clear d0 d1 df s0 s1 s2 s3 s4 sf r0 r1 rf
  have HD3 := Lib.hid (HD2.out.on hb3)
  have HS3 := Lib.hid (HS2.out.on hb3)
  have HR3 := Lib.hid (HR2.out.on hb3)
  have HB3 := Lib.hid (HB2.out.trans (hb3.mono HB2.out.size))
  clear hb3 HD2 HS2 HR2 HB2
  clear HH
  have hg : w.heap.size + 2 < w3.heap.size := HR3.out.lt
  have hbn : Below w3.heap.size w3 (w3.alloc (.cells #[.int .u64 S.q, .int .u64 S.b, .int .u64 S.i, .int .u64 S.e, .int .i64 S.u] 26)) := (Below.refl _ _).alloc (Nat.le_refl _) _
  have HFd := Lib.hid (SvA.new w3 S 26)
  have HD4 := Lib.hid (HD3.out.on hbn)
  have HS4 := Lib.hid (HS3.out.on hbn)
  have HR4 := Lib.hid (HR3.out.on hbn)
  have HB4 := Lib.hid (HB3.out.trans (hbn.mono HB3.out.size))
  clear hbn HD3 HS3 HR3 HB3
  obtain ⟨⟨d0, d1⟩, df⟩ := HD4.out
  obtain ⟨⟨s0, s1, s2, s3, s4⟩, sf⟩ := HS4.out
  obtain ⟨⟨r0, r1⟩, rf⟩ := HR4.out
  try simp only at r0 r1 s0 s1 s2 s3 s4 d0 d1
  skip
  go_upto_region 4 with (fail)
  generalize w3.alloc (.cells #[.int .u64 S.q, .int .u64 S.b, .int .u64 S.i, .int .u64 S.e, .int .i64 S.u] 26) = w4 at *
  generalize w3.heap.size = gf at *
  obtain ⟨f1, f2, f3, f4, f5⟩ := HFd.out
  go_upto_region 6 with (fail)
  have HS5 := Lib.hid (HS4.out.put0 (S.q + 1))
  have HD5 := Lib.hid (HD4.out.other (p := ⟨w.heap.size + 1, 0, none⟩) (by show w.heap.size + 1 ≠ w.heap.size; omega) (.int .u64 (S.q + 1)))
  have HR5 := Lib.hid (HR4.out.other (p := ⟨w.heap.size + 1, 0, none⟩) (by show w.heap.size + 1 ≠ w.heap.size + 2; omega) (.int .u64 (S.q + 1)))
  skip
  skip
  have HB5 := Lib.hid (HB4.out.setCell (p := ⟨w.heap.size + 1, 0, none⟩) (by show w.heap.size ≤ w.heap.size + 1; omega) (.int .u64 (S.q + 1)))
  go_upto_region 7 with (fail)
  generalize w4.setCell ⟨w.heap.size + 1, 0, none⟩ (.int .u64 (S.q + 1)) = w5 at *
  clear HD4 HS4 HR4 HB4 HFd q2 q1 f1 f2 f3 f4 f5
  clear d0 d1 df s0 s1 s2 s3 s4 sf r0 r1 rf
  obtain ⟨⟨d0, d1⟩, df⟩ := HD5.out
  obtain ⟨⟨s0, s1, s2, s3, s4⟩, sf⟩ := HS5.out
  obtain ⟨⟨r0, r1⟩, rf⟩ := HR5.out
  try simp only at r0 r1 s0 s1 s2 s3 s4 d0 d1
  go_wp2_with fail
  refine (HL.out _).mono ?_
  rintro e w6 ⟨rfl, hb6⟩
  clear HL
  clear d0 d1 df s0 s1 s2 s3 s4 sf r0 r1 rf
  have HD6 := Lib.hid (HD5.out.on hb6)
  have HS6 := Lib.hid (HS5.out.on hb6)
  have HR6 := Lib.hid (HR5.out.on hb6)
  have HB6 := Lib.hid (HB5.out.trans (hb6.mono HB5.out.size))
  clear hb6 HD5 HS5 HR5 HB5
  obtain ⟨⟨d0, d1⟩, df⟩ := HD6.out
  obtain ⟨⟨s0, s1, s2, s3, s4⟩, sf⟩ := HS6.out
  obtain ⟨⟨r0, r1⟩, rf⟩ := HR6.out
  try simp only at r0 r1 s0 s1 s2 s3 s4 d0 d1
  by_cases hct : c < T.size
  · have hcu : T.extract 0 c = U := by have h := HCU.out; rw [if_pos hct] at h; exact h
    have m1 : decide (c < T.size) = true := decide_eq_true hct
    clear HCU
    go_upto_region 10 with (fail)
    clear hcu m1 hct
    rcases H3.out with ⟨rfl, h5⟩ | ⟨rfl, h2, h3, h4, h5⟩ | ⟨rfl, h2, h3, h5⟩
    · have HE : Hid (R = ⟨U, d.b⟩) := Lib.hid (by rw [HRR.out]; exact h5 U)
      have hRE := HO.out
      rw [if_neg (by decide)] at hRE
      subst hRE
      clear H3 HRR h5 HSs HSE hts
      have HF := Lib.hid (HR6.out.set ⟨U, d.b⟩)
      have HBf := Lib.hid (below_set2 HB6.out (show w.heap.size ≤ w.heap.size + 2 by omega) (.string (⟨U, d.b⟩ : Dk).a) (.string (⟨U, d.b⟩ : Dk).b))
      try simp only at HF HBf
      go_wp2_with fail
      clear d0 d1 df s0 s1 s2 s3 s4 sf r0 r1 rf
      generalize hwf : World.setCell _ _ _ = wf
      rw [hwf] at HF HBf
      obtain ⟨⟨r0, r1⟩, rf⟩ := HF.out
      try simp only at r0 r1
      exact bodyPost_ret (v := .tuple #[.agg #[.string U, .string d.b], .int .i64 0]) (by simp [results, Tryd.results19, go_sem, r0, r1]) rfl ⟨by rw [HE.out], HBf.out⟩
    · have HE : Hid (R = ⟨d.a, U⟩) := Lib.hid (by rw [HRR.out]; exact h5 U)
      have hRE := HO.out
      rw [if_pos rfl] at hRE
      subst hRE
      rw [h2] at HSE
      clear H3 HRR h5 HSs h2 h3 h4 hts
      go_wp2_with fail
      refine (HSE.out _).mono ?_
      rintro e w7 ⟨rfl, hb7⟩
      clear HSE
      clear d0 d1 df s0 s1 s2 s3 s4 sf r0 r1 rf
      have HD7 := Lib.hid (HD6.out.on hb7)
      have HS7 := Lib.hid (HS6.out.on hb7)
      have HR7 := Lib.hid (HR6.out.on hb7)
      have HB7 := Lib.hid (HB6.out.trans (hb7.mono HB6.out.size))
      clear hb7 HD6 HS6 HR6 HB6
      obtain ⟨⟨d0, d1⟩, df⟩ := HD7.out
      obtain ⟨⟨s0, s1, s2, s3, s4⟩, sf⟩ := HS7.out
      obtain ⟨⟨r0, r1⟩, rf⟩ := HR7.out
      try simp only at r0 r1 s0 s1 s2 s3 s4 d0 d1
      have HF := Lib.hid (HR7.out.set ⟨d.a, U⟩)
      have HBf := Lib.hid (below_set2 HB7.out (show w.heap.size ≤ w.heap.size + 2 by omega) (.string (⟨d.a, U⟩ : Dk).a) (.string (⟨d.a, U⟩ : Dk).b))
      try simp only at HF HBf
      go_wp2_with fail
      clear d0 d1 df s0 s1 s2 s3 s4 sf r0 r1 rf
      generalize hwf : World.setCell _ _ _ = wf
      rw [hwf] at HF HBf
      obtain ⟨⟨r0, r1⟩, rf⟩ := HF.out
      try simp only at r0 r1
      exact bodyPost_ret (v := .tuple #[.agg #[.string d.a, .string U], .int .i64 0]) (by simp [results, Tryd.results19, go_sem, r0, r1]) rfl ⟨by rw [HE.out], HBf.out⟩
    · have HE : Hid (R = ⟨U, d.b⟩) := Lib.hid (by rw [HRR.out]; exact h5 U)
      have hRE := HO.out
      rw [if_pos rfl] at hRE
      subst hRE
      rw [h2] at HSE
      clear H3 HRR h5 HSs h2 h3 hts
      go_wp2_with fail
      refine (HSE.out _).mono ?_
      rintro e w7 ⟨rfl, hb7⟩
      clear HSE
      clear d0 d1 df s0 s1 s2 s3 s4 sf r0 r1 rf
      have HD7 := Lib.hid (HD6.out.on hb7)
      have HS7 := Lib.hid (HS6.out.on hb7)
      have HR7 := Lib.hid (HR6.out.on hb7)
      have HB7 := Lib.hid (HB6.out.trans (hb7.mono HB6.out.size))
      clear hb7 HD6 HS6 HR6 HB6
      obtain ⟨⟨d0, d1⟩, df⟩ := HD7.out
      obtain ⟨⟨s0, s1, s2, s3, s4⟩, sf⟩ := HS7.out
      obtain ⟨⟨r0, r1⟩, rf⟩ := HR7.out
      try simp only at r0 r1 s0 s1 s2 s3 s4 d0 d1
      have HF := Lib.hid (HR7.out.set ⟨U, d.b⟩)
      have HBf := Lib.hid (below_set2 HB7.out (show w.heap.size ≤ w.heap.size + 2 by omega) (.string (⟨U, d.b⟩ : Dk).a) (.string (⟨U, d.b⟩ : Dk).b))
      try simp only at HF HBf
      go_wp2_with fail
      clear d0 d1 df s0 s1 s2 s3 s4 sf r0 r1 rf
      generalize hwf : World.setCell _ _ _ = wf
      rw [hwf] at HF HBf
      obtain ⟨⟨r0, r1⟩, rf⟩ := HF.out
      try simp only at r0 r1
      exact bodyPost_ret (v := .tuple #[.agg #[.string U, .string d.b], .int .i64 0]) (by simp [results, Tryd.results19, go_sem, r0, r1]) rfl ⟨by rw [HE.out], HBf.out⟩
  · have hcu : T = U := by have h := HCU.out; rw [if_neg hct, ext_all] at h; exact h
    have m1 : decide (c < T.size) = false := decide_eq_false hct
    have m2 : decide ((c : Int) < (T.size : Int)) = false := decide_eq_false (by omega)
    have m3 : ¬ (c : Int) < (T.size : Int) := by omega
    clear HCU
    subst hcu
    go_upto_region 10 with (fail)
    clear m1 m2 m3 hct
    rcases H3.out with ⟨rfl, h5⟩ | ⟨rfl, h2, h3, h4, h5⟩ | ⟨rfl, h2, h3, h5⟩
    · have HE : Hid (R = ⟨T, d.b⟩) := Lib.hid (by rw [HRR.out]; exact h5 T)
      have hRE := HO.out
      rw [if_neg (by decide)] at hRE
      subst hRE
      clear H3 HRR h5 HSs HSE hts
      have HF := Lib.hid (HR6.out.set ⟨T, d.b⟩)
      have HBf := Lib.hid (below_set2 HB6.out (show w.heap.size ≤ w.heap.size + 2 by omega) (.string (⟨T, d.b⟩ : Dk).a) (.string (⟨T, d.b⟩ : Dk).b))
      try simp only at HF HBf
      go_wp2_with fail
      clear d0 d1 df s0 s1 s2 s3 s4 sf r0 r1 rf
      generalize hwf : World.setCell _ _ _ = wf
      rw [hwf] at HF HBf
      obtain ⟨⟨r0, r1⟩, rf⟩ := HF.out
      try simp only at r0 r1
      exact bodyPost_ret (v := .tuple #[.agg #[.string T, .string d.b], .int .i64 0]) (by simp [results, Tryd.results19, go_sem, r0, r1]) rfl ⟨by rw [HE.out], HBf.out⟩
    · have HE : Hid (R = ⟨d.a, T⟩) := Lib.hid (by rw [HRR.out]; exact h5 T)
      have hRE := HO.out
      rw [if_pos rfl] at hRE
      subst hRE
      rw [h2] at HSE
      clear H3 HRR h5 HSs h2 h3 h4 hts
      go_wp2_with fail
      refine (HSE.out _).mono ?_
      rintro e w7 ⟨rfl, hb7⟩
      clear HSE
      clear d0 d1 df s0 s1 s2 s3 s4 sf r0 r1 rf
      have HD7 := Lib.hid (HD6.out.on hb7)
      have HS7 := Lib.hid (HS6.out.on hb7)
      have HR7 := Lib.hid (HR6.out.on hb7)
      have HB7 := Lib.hid (HB6.out.trans (hb7.mono HB6.out.size))
      clear hb7 HD6 HS6 HR6 HB6
      obtain ⟨⟨d0, d1⟩, df⟩ := HD7.out
      obtain ⟨⟨s0, s1, s2, s3, s4⟩, sf⟩ := HS7.out
      obtain ⟨⟨r0, r1⟩, rf⟩ := HR7.out
      try simp only at r0 r1 s0 s1 s2 s3 s4 d0 d1
      have HF := Lib.hid (HR7.out.set ⟨d.a, T⟩)
      have HBf := Lib.hid (below_set2 HB7.out (show w.heap.size ≤ w.heap.size + 2 by omega) (.string (⟨d.a, T⟩ : Dk).a) (.string (⟨d.a, T⟩ : Dk).b))
      try simp only at HF HBf
      go_wp2_with fail
      clear d0 d1 df s0 s1 s2 s3 s4 sf r0 r1 rf
      generalize hwf : World.setCell _ _ _ = wf
      rw [hwf] at HF HBf
      obtain ⟨⟨r0, r1⟩, rf⟩ := HF.out
      try simp only at r0 r1
      exact bodyPost_ret (v := .tuple #[.agg #[.string d.a, .string T], .int .i64 0]) (by simp [results, Tryd.results19, go_sem, r0, r1]) rfl ⟨by rw [HE.out], HBf.out⟩
    · have HE : Hid (R = ⟨T, d.b⟩) := Lib.hid (by rw [HRR.out]; exact h5 T)
      have hRE := HO.out
      rw [if_pos rfl] at hRE
      subst hRE
      rw [h2] at HSE
      clear H3 HRR h5 HSs h2 h3 hts
      go_wp2_with fail
      refine (HSE.out _).mono ?_
      rintro e w7 ⟨rfl, hb7⟩
      clear HSE
      clear d0 d1 df s0 s1 s2 s3 s4 sf r0 r1 rf
      have HD7 := Lib.hid (HD6.out.on hb7)
      have HS7 := Lib.hid (HS6.out.on hb7)
      have HR7 := Lib.hid (HR6.out.on hb7)
      have HB7 := Lib.hid (HB6.out.trans (hb7.mono HB6.out.size))
      clear hb7 HD6 HS6 HR6 HB6
      obtain ⟨⟨d0, d1⟩, df⟩ := HD7.out
      obtain ⟨⟨s0, s1, s2, s3, s4⟩, sf⟩ := HS7.out
      obtain ⟨⟨r0, r1⟩, rf⟩ := HR7.out
      try simp only at r0 r1 s0 s1 s2 s3 s4 d0 d1
      have HF := Lib.hid (HR7.out.set ⟨T, d.b⟩)
      have HBf := Lib.hid (below_set2 HB7.out (show w.heap.size ≤ w.heap.size + 2 by omega) (.string (⟨T, d.b⟩ : Dk).a) (.string (⟨T, d.b⟩ : Dk).b))
      try simp only at HF HBf
      go_wp2_with fail
      clear d0 d1 df s0 s1 s2 s3 s4 sf r0 r1 rf
      generalize hwf : World.setCell _ _ _ = wf
      rw [hwf] at HF HBf
      obtain ⟨⟨r0, r1⟩, rf⟩ := HF.out
      try simp only at r0 r1
      exact bodyPost_ret (v := .tuple #[.agg #[.string T, .string d.b], .int .i64 0]) (by simp [results, Tryd.results19, go_sem, r0, r1]) rfl ⟨by rw [HE.out], HBf.out⟩
end Go.Proofs.YtlpnhpnigljlnaaDoor
