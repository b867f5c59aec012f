/-
  What is joined of two, and of three; the walk of the chapter's examples.
-/
import Derived.Test.YtcichjphfdepmaaJoins
namespace Go.Proofs.Ytcichjphfdepmaa
open Go.Sort Go.RowKit Go.Proofs.Ytcichjphfdepmaa.Pure

theorem join2_any (g : Nat) (x y : Kn) (W : World) (mx : mayK x = true) (my : mayK y = true) (fx : Fit x) (h : Lst W (some ⟨g, 0, none⟩) [x, y]) :
    Calls Try.prog 18 #[.slice (some ⟨g, 0, none⟩) 2 2] W fun e w' => e = .returned (.tuple #[.agg #[.int .u64 (stepK x y).i, .int .i64 (stepK x y).s], .int .i64 0]) ∧ Below W.heap.size W w' := by
  have := join_yes (some ⟨g, 0, none⟩) 2 [x, y] W (Nat.le_of_ble_eq_true rfl) h (by simp [mayL, mx, my])
  rwa [join2 mx fx] at this
theorem join3_any (g : Nat) (x y z : Kn) (W : World) (mx : mayK x = true) (my : mayK y = true) (mz : mayK z = true) (fx : Fit x) (h : Lst W (some ⟨g, 0, none⟩) [x, y, z]) :
    Calls Try.prog 18 #[.slice (some ⟨g, 0, none⟩) 3 3] W fun e w' => e = .returned (.tuple #[.agg #[.int .u64 (stepK (stepK x y) z).i, .int .i64 (stepK (stepK x y) z).s], .int .i64 0]) ∧ Below W.heap.size W w' := by
  have := join_yes (some ⟨g, 0, none⟩) 3 [x, y, z] W (Nat.le_of_ble_eq_true rfl) h (by simp [mayL, mx, my, mz])
  rwa [join3 mx fx] at this

set_option maxRecDepth 100000 in
set_option maxHeartbeats 2000000 in
theorem awake_any (w : World) : Calls Try.prog 16 #[] w fun e w' => e = .returned (.bool true) ∧ Below w.heap.size w w' := by
  have HJ : Hid (∀ (W : World) (g : Nat), Lst W (some ⟨g, 0, none⟩) [⟨2, 0⟩, ⟨1, 2⟩, ⟨2, 1⟩] → Calls Try.prog 18 #[.slice (some ⟨g, 0, none⟩) 3 3] W fun e w' => e = .returned (.tuple #[.agg #[.int .u64 2, .int .i64 1], .int .i64 0]) ∧ Below W.heap.size W w') :=
    Lib.hid fun W g h => join3_any g ⟨2, 0⟩ ⟨1, 2⟩ ⟨2, 1⟩ W (by decide) (by decide) (by decide) ⟨by decide, by decide⟩ h
  have H3 := Lib.hid (fun W => Lst.three W ⟨2, 0⟩ ⟨1, 2⟩ ⟨2, 1⟩ 24)
  have HR : Hid (∀ W : World, Calls Try.prog 9 #[.int .u64 2, .agg #[.int .u64 5, .int .i64 2]] W fun e w' => e = .returned (.tuple #[.int .u64 6, .int .i64 0]) ∧ Below W.heap.size W w') :=
    Lib.hid fun W => refute_any 2 ⟨5, 2⟩ W ⟨by decide, by decide⟩
  have HA : Hid (∀ W : World, Calls Try.prog 12 #[.agg #[.int .u64 3, .int .i64 1], .agg #[.int .u64 3, .int .i64 0]] W fun e w' => e = .returned (.bool true) ∧ Below W.heap.size W w') :=
    Lib.hid fun W => beats_any ⟨3, 1⟩ ⟨3, 0⟩ W
  have HC : Hid (∀ W : World, Calls Try.prog 12 #[.agg #[.int .u64 4, .int .i64 0], .agg #[.int .u64 3, .int .i64 1]] W fun e w' => e = .returned (.bool true) ∧ Below W.heap.size W w') :=
    Lib.hid fun W => beats_any ⟨4, 0⟩ ⟨3, 1⟩ W
  have BX0 := Lib.hid (Vr.new w ⟨3, 1⟩ 24)
  have HB0 : Hid (Below w.heap.size w (w.alloc (.cells #[.int .u64 3, .int .i64 1] 24))) := Lib.hid ((Below.refl _ _).alloc (Nat.le_refl _) _)
  go_enter Try.func16, Try.ntmps16
  go_upto_region 2 with (fail)
  generalize w.alloc (.cells #[.int .u64 3, .int .i64 1] 24) = w0 at *
  have hz0 : w.heap.size < w0.heap.size := BX0.out.lt
  go_wp2_with fail
  refine (HJ.out _ _ (H3.out _)).mono ?_
  rintro e w1 ⟨rfl, hb1⟩
  have HB1' : Hid (Below w0.heap.size w0 w1) := Lib.hid (((Below.refl _ _).alloc (Nat.le_refl _) _).trans (hb1.mono (by simp)))
  have HB1 : Hid (Below w.heap.size w w1) := Lib.hid (HB0.out.trans (HB1'.out.mono (by omega)))
  have BX1 := Lib.hid (BX0.out.on HB1'.out)
  clear hb1 HJ H3 BX0
  go_upto_region 3 with (fail)
  have BY2 := Lib.hid (Vr.new w1 ⟨2, 1⟩ 24)
  have BX2 := Lib.hid (BX1.out.alloc (.cells #[.int .u64 2, .int .i64 1] 24))
  have HB2 : Hid (Below w.heap.size w (w1.alloc (.cells #[.int .u64 2, .int .i64 1] 24))) := Lib.hid (HB1.out.alloc HB1.out.size _)
  generalize w1.alloc (.cells #[.int .u64 2, .int .i64 1] 24) = w2 at *
  generalize w1.heap.size = gj at *
  clear BX1 HB1 HB1'
  go_wp2_with fail
  refine (HR.out _).mono ?_
  rintro e w3 ⟨rfl, hb3⟩
  have HB3 : Hid (Below w.heap.size w w3) := Lib.hid (HB2.out.trans (hb3.mono HB2.out.size))
  have BX3 := Lib.hid (BX2.out.on hb3)
  have BY3 := Lib.hid (BY2.out.on hb3)
  clear hb3 HB2 BX2 BY2 HR
  obtain ⟨⟨x0, x1⟩, _⟩ := BX3.out
  go_wp2_with fail
  refine (HA.out _).mono ?_
  rintro e w4 ⟨rfl, hb4⟩
  have HB4 : Hid (Below w.heap.size w w4) := Lib.hid (HB3.out.trans (hb4.mono HB3.out.size))
  have BX4 := Lib.hid (BX3.out.on hb4)
  have BY4 := Lib.hid (BY3.out.on hb4)
  clear hb4 HB3 BX3 BY3 HA x0 x1
  obtain ⟨⟨x0, x1⟩, _⟩ := BX4.out
  go_wp2_with fail
  refine (HC.out _).mono ?_
  rintro e w5 ⟨rfl, hb5⟩
  have HB5 : Hid (Below w.heap.size w w5) := Lib.hid (HB4.out.trans (hb5.mono HB4.out.size))
  have BY5 := Lib.hid (BY4.out.on hb5)
  clear hb5 HB4 BX4 BY4 HC x0 x1
  obtain ⟨⟨y0, y1⟩, _⟩ := BY5.out
  go_wp2_with fail
  go_ret
  exact ⟨rfl, HB5.out⟩
end Go.Proofs.Ytcichjphfdepmaa
