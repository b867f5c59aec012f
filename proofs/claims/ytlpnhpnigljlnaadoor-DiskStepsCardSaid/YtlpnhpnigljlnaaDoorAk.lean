/-
  The walk of the chapter's examples.
-/
import Derived.Test.YtlpnhpnigljlnaaDoorFl
namespace Go.Proofs.YtlpnhpnigljlnaaDoor
open Go.Sort Go.RowKit Go.Proofs.YtlpnhpnigljlnaaDoor.Pure

set_option maxRecDepth 100000 in
set_option maxHeartbeats 4000000 in
theorem awake_any (w : World) (ht : Tab w) : Calls Tryd.prog 16 #[] w fun e w' => e = .returned (.bool true) ∧ Below w.heap.size w w' := by
  obtain ⟨L, d2, d3, t1, r1, l1, l2, t2, r2, ⟨z2, z2'⟩, x2, y2, t3, r3, ⟨z3, z3'⟩, x3, y3⟩ := awake_facts
  have f1 : FitS ⟨0, 7, 0, 0, -1⟩ := ⟨by decide, by decide, by decide, by decide, by decide⟩
  have f2 : FitS ⟨0, 8, 0, 0, 3⟩ := ⟨by decide, by decide, by decide, by decide, by decide⟩
  have H1 := Lib.hid (fun (W : World) (hT : Tab W) => write_any d0D ⟨0, 7, 0, 0, -1⟩ W (by decide) (by decide) f1 hT)
  rw [t1, r1] at H1
  have H2 := Lib.hid (fun (W : World) (hT : Tab W) => write_any ⟨L, ⟨#[]⟩⟩ ⟨0, 8, 0, 0, 3⟩ W (by show L.size ≤ _; omega) (by show (⟨#[]⟩ : ByteArray).size ≤ _; decide) f2 hT)
  rw [t2, r2] at H2
  have H3 := Lib.hid (fun (W : World) (hT : Tab W) => tear_any ⟨L, ⟨#[]⟩⟩ ⟨0, 8, 0, 0, 3⟩ 5 W (by show L.size ≤ _; omega) (by show (⟨#[]⟩ : ByteArray).size ≤ _; decide) f2 (by decide) hT)
  rw [t3, r3] at H3
  have H4 := Lib.hid (fun (W : World) (hT : Tab W) => read_any d2 W (by omega) (by omega) hT)
  rw [x2, y2] at H4
  have H5 := Lib.hid (fun (W : World) (hT : Tab W) => read_any d3 W (by omega) (by omega) hT)
  rw [x3, y3] at H5
  unfold d0D at H1
  simp only at H1 H2 H3 H4 H5
  have HT_0 := Lib.hid ht
  have HB_0 := Lib.hid (Below.refl w.heap.size w)
  clear t1 r1 l1 t2 r2 z2 z2' x2 y2 t3 r3 z3 z3' x3 y3 f1 f2 ht
  go_enter Tryd.func16, Tryd.ntmps16
  go_wp2_with fail
  refine (H1.out _ HT_0.out).mono ?_
  rintro e w1 ⟨rfl, hb⟩
  have T_1 := Lib.hid (HT_0.out.on hb)
  have B_1 := Lib.hid (HB_0.out.trans (hb.mono HB_0.out.size))
  clear HT_0 HB_0
  clear hb
  have hbn : Below w1.heap.size w1 (w1.alloc (.cells #[.string L, .string ⟨#[]⟩] 23)) := (Below.refl _ _).alloc (Nat.le_refl _) _
  have T_2 := Lib.hid (T_1.out.on hbn)
  have B_2 := Lib.hid (B_1.out.trans (hbn.mono B_1.out.size))
  clear T_1 B_1
  have a_2 : Hid (DkA (w1.alloc (.cells #[.string L, .string ⟨#[]⟩] 23)) w1.heap.size ⟨L, ⟨#[]⟩⟩) := Lib.hid (DkA.new w1 ⟨L, ⟨#[]⟩⟩ _)
  clear hbn
  go_upto_region 2 with (fail)
  generalize w1.alloc (.cells #[.string L, .string ⟨#[]⟩] 23) = w2 at *
  generalize w1.heap.size = ga at *
  obtain ⟨a0, a1⟩ := a_2.out
  try simp only at a0 a1
  go_wp2_with fail
  refine (H2.out _ T_2.out).mono ?_
  rintro e w3 ⟨rfl, hb⟩
  clear a0 a1
  have T_3 := Lib.hid (T_2.out.on hb)
  have B_3 := Lib.hid (B_2.out.trans (hb.mono B_2.out.size))
  have a_3 := Lib.hid (a_2.out.on hb)
  clear T_2 B_2 a_2
  clear hb
  have hbn : Below w3.heap.size w3 (w3.alloc (.cells #[.string d2.a, .string d2.b] 23)) := (Below.refl _ _).alloc (Nat.le_refl _) _
  have T_4 := Lib.hid (T_3.out.on hbn)
  have B_4 := Lib.hid (B_3.out.trans (hbn.mono B_3.out.size))
  have a_4 := Lib.hid (a_3.out.on hbn)
  clear T_3 B_3 a_3
  have b_4 : Hid (DkA (w3.alloc (.cells #[.string d2.a, .string d2.b] 23)) w3.heap.size d2) := Lib.hid (DkA.new w3 d2 _)
  clear hbn
  go_upto_region 3 with (fail)
  generalize w3.alloc (.cells #[.string d2.a, .string d2.b] 23) = w4 at *
  generalize w3.heap.size = gb at *
  obtain ⟨a0, a1⟩ := a_4.out
  try simp only at a0 a1
  go_wp2_with fail
  refine (H3.out _ T_4.out).mono ?_
  rintro e w5 ⟨rfl, hb⟩
  clear a0 a1
  have T_5 := Lib.hid (T_4.out.on hb)
  have B_5 := Lib.hid (B_4.out.trans (hb.mono B_4.out.size))
  have a_5 := Lib.hid (a_4.out.on hb)
  have b_5 := Lib.hid (b_4.out.on hb)
  clear T_4 B_4 a_4 b_4
  clear hb
  have hbn : Below w5.heap.size w5 (w5.alloc (.cells #[.string d3.a, .string d3.b] 23)) := (Below.refl _ _).alloc (Nat.le_refl _) _
  have T_6 := Lib.hid (T_5.out.on hbn)
  have B_6 := Lib.hid (B_5.out.trans (hbn.mono B_5.out.size))
  have a_6 := Lib.hid (a_5.out.on hbn)
  have b_6 := Lib.hid (b_5.out.on hbn)
  clear T_5 B_5 a_5 b_5
  have c_6 : Hid (DkA (w5.alloc (.cells #[.string d3.a, .string d3.b] 23)) w5.heap.size d3) := Lib.hid (DkA.new w5 d3 _)
  clear hbn
  go_upto_region 4 with (fail)
  generalize w5.alloc (.cells #[.string d3.a, .string d3.b] 23) = w6 at *
  generalize w5.heap.size = gc at *
  obtain ⟨b0, b1⟩ := b_6.out
  try simp only at b0 b1
  go_wp2_with fail
  refine (H4.out _ T_6.out).mono ?_
  rintro e w7 ⟨rfl, hb⟩
  clear b0 b1
  have T_7 := Lib.hid (T_6.out.on hb)
  have B_7 := Lib.hid (B_6.out.trans (hb.mono B_6.out.size))
  have a_7 := Lib.hid (a_6.out.on hb)
  have b_7 := Lib.hid (b_6.out.on hb)
  have c_7 := Lib.hid (c_6.out.on hb)
  clear T_6 B_6 a_6 b_6 c_6
  clear hb
  have hbn : Below w7.heap.size w7 (w7.alloc (.cells #[.int .u64 2, .int .u64 8, .int .u64 0, .int .u64 0, .int .i64 3] 26)) := (Below.refl _ _).alloc (Nat.le_refl _) _
  have T_8 := Lib.hid (T_7.out.on hbn)
  have B_8 := Lib.hid (B_7.out.trans (hbn.mono B_7.out.size))
  have a_8 := Lib.hid (a_7.out.on hbn)
  have b_8 := Lib.hid (b_7.out.on hbn)
  have c_8 := Lib.hid (c_7.out.on hbn)
  clear T_7 B_7 a_7 b_7 c_7
  have x_8 : Hid (SvA (w7.alloc (.cells #[.int .u64 2, .int .u64 8, .int .u64 0, .int .u64 0, .int .i64 3] 26)) w7.heap.size ⟨2, 8, 0, 0, 3⟩) := Lib.hid (SvA.new w7 ⟨2, 8, 0, 0, 3⟩ _)
  clear hbn
  go_upto_region 5 with (fail)
  generalize w7.alloc (.cells #[.int .u64 2, .int .u64 8, .int .u64 0, .int .u64 0, .int .i64 3] 26) = w8 at *
  generalize w7.heap.size = gx at *
  obtain ⟨c0, c1⟩ := c_8.out
  try simp only at c0 c1
  go_wp2_with fail
  refine (H5.out _ T_8.out).mono ?_
  rintro e w9 ⟨rfl, hb⟩
  clear c0 c1
  have T_9 := Lib.hid (T_8.out.on hb)
  have B_9 := Lib.hid (B_8.out.trans (hb.mono B_8.out.size))
  have a_9 := Lib.hid (a_8.out.on hb)
  have b_9 := Lib.hid (b_8.out.on hb)
  have c_9 := Lib.hid (c_8.out.on hb)
  have x_9 := Lib.hid (x_8.out.on hb)
  clear T_8 B_8 a_8 b_8 c_8 x_8
  clear hb
  have hbn : Below w9.heap.size w9 (w9.alloc (.cells #[.int .u64 1, .int .u64 7, .int .u64 0, .int .u64 0, .int .i64 (-1)] 26)) := (Below.refl _ _).alloc (Nat.le_refl _) _
  have T_10 := Lib.hid (T_9.out.on hbn)
  have B_10 := Lib.hid (B_9.out.trans (hbn.mono B_9.out.size))
  have a_10 := Lib.hid (a_9.out.on hbn)
  have b_10 := Lib.hid (b_9.out.on hbn)
  have c_10 := Lib.hid (c_9.out.on hbn)
  have x_10 := Lib.hid (x_9.out.on hbn)
  clear T_9 B_9 a_9 b_9 c_9 x_9
  have y_10 : Hid (SvA (w9.alloc (.cells #[.int .u64 1, .int .u64 7, .int .u64 0, .int .u64 0, .int .i64 (-1)] 26)) w9.heap.size ⟨1, 7, 0, 0, -1⟩) := Lib.hid (SvA.new w9 ⟨1, 7, 0, 0, -1⟩ _)
  clear hbn
  go_upto_region 6 with (fail)
  generalize w9.alloc (.cells #[.int .u64 1, .int .u64 7, .int .u64 0, .int .u64 0, .int .i64 (-1)] 26) = w10 at *
  generalize w9.heap.size = gy at *
  obtain ⟨a0, a1⟩ := a_10.out
  try simp only at a0 a1
  obtain ⟨x0, x1, x2, x3, x4⟩ := x_10.out
  try simp only at x0 x1 x2 x3 x4
  obtain ⟨y0, y1, y2, y3, y4⟩ := y_10.out
  try simp only at y0 y1 y2 y3 y4
  go_wp2_with fail
  go_ret
  exact ⟨rfl, B_10.out⟩
end Go.Proofs.YtlpnhpnigljlnaaDoor
