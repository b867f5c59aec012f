/-
  The walk of the document's Beats.
-/
import Derived.Test.YtipepmnnjhhjbaaLeaf
namespace Go.Proofs.Ytipepmnnjhhjbaa
open Go.Sort Go.RowKit Go.Proofs.Ytipepmnnjhhjbaa.Pure

set_option maxRecDepth 100000 in
set_option maxHeartbeats 2000000 in
theorem rbeats_any (x y : Kn) (w : World) : Calls Try.prog 23 #[.agg #[.int .u64 x.i, .int .i64 x.s], .agg #[.int .u64 y.i, .int .i64 y.s]] w fun e w' => e = .returned (.bool (beatsB x y)) ∧ Below w.heap.size w w' := by
  have HX := Lib.hid (fun W => rmay_any x W)
  have HY := Lib.hid (fun W => rmay_any y W)
  have HBT : beatsB x y = (mayK x && mayK y && over x y) := rfl
  have HV : Hid (over x y = decide (y.i < x.i ∨ (x.i = y.i ∧ y.s < x.s))) := Lib.hid rfl
  rw [HBT]
  clear HBT
  generalize over x y = V at *
  generalize mayK x = MX at *
  generalize mayK y = MY at *
  go_enter Try.func23, Try.ntmps23
  go_upto_region 1 with (fail)
  have HB : Hid (Below w.heap.size w ((w.alloc (.cells #[.int .u64 x.i, .int .i64 x.s] 25)).alloc (.cells #[.int .u64 y.i, .int .i64 y.s] 25))) := Lib.hid (((Below.refl _ _).alloc (Nat.le_refl _) _).alloc (by simp) _)
  have BX : Hid (Bx ((w.alloc (.cells #[.int .u64 x.i, .int .i64 x.s] 25)).alloc (.cells #[.int .u64 y.i, .int .i64 y.s] 25)) w.heap.size x) := Lib.hid ((Bx.new w x _).on ((Below.refl _ _).alloc (Nat.le_refl _) _))
  have BY : Hid (Bx ((w.alloc (.cells #[.int .u64 x.i, .int .i64 x.s] 25)).alloc (.cells #[.int .u64 y.i, .int .i64 y.s] 25)) (w.heap.size + 1) y) := Lib.hid (by have := Bx.new (w.alloc (.cells #[.int .u64 x.i, .int .i64 x.s] 25)) y 25; simpa using this)
  generalize (w.alloc (.cells #[.int .u64 x.i, .int .i64 x.s] 25)).alloc (.cells #[.int .u64 y.i, .int .i64 y.s] 25) = w2 at *
  have hz2 : w.heap.size + 1 < w2.heap.size := BY.out.lt
  obtain ⟨u0, u1⟩ := BX.out
  obtain ⟨v0, v1⟩ := BY.out
  go_wp2_with fail
  refine (HX.out _).mono ?_
  rintro e w3 ⟨rfl, hb3⟩
  have HB3 : Hid (Below w.heap.size w w3) := Lib.hid (HB.out.trans (hb3.mono (by omega)))
  have BX3 := Lib.hid (BX.out.on hb3)
  have BY3 := Lib.hid (BY.out.on hb3)
  clear u0 u1 v0 v1 hb3 BX BY HX
  have hz3 : w.heap.size + 1 < w3.heap.size := BY3.out.lt
  rcases MX with _ | _
  · go_wp2_with fail
    go_ret
    exact ⟨by simp, HB3.out⟩
  obtain ⟨u0, u1⟩ := BX3.out
  obtain ⟨v0, v1⟩ := BY3.out
  go_wp2_with fail
  refine (HY.out _).mono ?_
  rintro e w4 ⟨rfl, hb4⟩
  have HB4 : Hid (Below w.heap.size w w4) := Lib.hid (HB3.out.trans (hb4.mono (by omega)))
  have BX4 := Lib.hid (BX3.out.on hb4)
  have BY4 := Lib.hid (BY3.out.on hb4)
  clear u0 u1 v0 v1 hb4 BX3 BY3 HY
  rcases MY with _ | _
  · go_wp2_with fail
    go_ret
    exact ⟨by simp, HB4.out⟩
  obtain ⟨u0, u1⟩ := BX4.out
  obtain ⟨v0, v1⟩ := BY4.out
  generalize x.i = xi at *
  generalize x.s = xs at *
  generalize y.i = yi at *
  generalize y.s = ys at *
  by_cases b1 : yi < xi
  · have d1 : decide (yi < xi) = true := by simpa using b1
    have hV : V = true := by rw [HV.out]; simp [b1]
    subst hV
    clear b1
    go_wp2_with fail
    go_ret
    exact ⟨rfl, HB4.out⟩
  have d1 : decide (yi < xi) = false := by simpa using b1
  by_cases b2 : xi = yi
  · have hV : V = decide (ys < xs) := by rw [HV.out]; simp [b2]
    subst hV b2
    clear b1
    go_wp2_with fail
    go_ret
    exact ⟨by simp, HB4.out⟩
  · have d2 : (xi == yi) = false := by simpa using b2
    have hV : V = false := by rw [HV.out]; simp [b1, b2]
    subst hV
    clear b1 b2
    go_wp2_with fail
    go_ret
    exact ⟨by simp, HB4.out⟩
end Go.Proofs.Ytipepmnnjhhjbaa
