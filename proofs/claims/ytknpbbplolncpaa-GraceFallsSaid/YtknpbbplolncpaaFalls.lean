/-
  GraceFalls: with more confirmations a grace is no longer, with more nodes no shorter; between what is least and what is greatest: the law returns true for every input.
-/
import Derived.Test.YtknpbbplolncpaaLaw
namespace Go.Proofs.Ytknpbbplolncpaa.lawFalls
open Go.Sort Go.ChangeShapes Go.WideShapes Go.ChangeAt Go.RowKit Go.Proofs.Ytknpbbplolncpaa.Pure

theorem grace_ok {r : Ru} {n : Nat} {c : Int} (hr : rulesB r = true) (h1 : 1 ≤ n) (h2 : n ≤ 64) (hc : 0 ≤ c) : graceA r n c = (graceN r n c, 0) := by
  unfold graceA
  rw [if_pos (by simp only [mayG, hr, Bool.true_and, Bool.and_eq_true, decide_eq_true_iff]; omega)]
  simp
theorem grace_bad {r : Ru} {n c : Int} (hr : rulesB r = false) : graceA r n c = (0, 1) := by
  unfold graceA
  rw [if_neg (by simp [mayG, hr])]
/-- What is told of five graces. -/
theorem told {r : Ru} (hr : rulesB r = true) (M : Nat) (K : Int) (hM : 1 ≤ M ∧ M ≤ 63) (hK : 0 ≤ K) :
    graceN r M (K + 1) ≤ graceN r M K ∧ graceN r M K ≤ graceN r (M + 1) K ∧ graceN r M r.al ≤ graceN r M K ∧ graceN r M K ≤ graceN r M 0 ∧ 1 ≤ graceN r M r.al ∧ graceN r M 0 ≤ graceN r M r.al * r.mo ∧ graceN r M r.al * r.mo ≤ 140000 ∧ 0 ≤ r.al := by
  have hr' := (rulesB_iff r).1 hr
  have hs := least_one hr' hM.1 (by omega : M ≤ 64)
  have hb := least_bounds hr' hM.1 (by omega : M ≤ 64)
  have hm := least_mono hr' (show M ≤ M + 1 by omega) (by omega)
  unfold Rl at hr'
  obtain ⟨⟨_, _⟩, ⟨h3, h4⟩, h5, h6⟩ := hr'
  have e : gr r.mo r.al (leastN r M) r.al = leastN r M := gr_all (Int.le_refl _)
  simp only [grace_gr]
  refine ⟨gr_falls h3 hs h5 (by omega), gr_more h3 h5 hm, ?_, gr_falls h3 hs h5 hK, by rw [e]; exact hs, ?_, ?_, h5⟩
  · rw [e]
    have : gr r.mo r.al (leastN r M) (max K r.al) = leastN r M := gr_all (by omega)
    exact Int.le_trans (Int.le_of_eq this.symm) (gr_falls h3 hs h5 (show K ≤ max K r.al by omega))
  · rw [e]; exact gr_none_le h3 hs h5
  · rw [e]
    have : leastN r M * r.mo ≤ 7000 * 20 := Int.mul_le_mul hb.2 h4 (by omega) (by omega)
    omega

set_option maxRecDepth 100000 in
set_option maxHeartbeats 4000000 in
theorem walk_bad (r : Ru) (n c : Nat) (w : World) (hn : n ≤ 255) (hc : c ≤ 255) (hr : rulesB r = false) : Calls Try.prog 4 #[.agg #[.int .i64 r.mn, .int .i64 r.mo, .int .i64 r.al], .int .u8 (n : Int), .int .u8 (c : Int)] w fun e w' => e = .returned (.bool true) ∧ Below w.heap.size w w' := by
  have HB0 : Hid (Below w.heap.size w (w.alloc (.cells #[.int .i64 r.mn, .int .i64 r.mo, .int .i64 r.al] 24))) := Lib.hid ((Below.refl _ w).alloc (Nat.le_refl _) _)
  have BX0 : Hid ((w.alloc (.cells #[.int .i64 r.mn, .int .i64 r.mo, .int .i64 r.al] 24)).cell? ⟨w.heap.size, 0, none⟩ = some (.int .i64 r.mn) ∧ (w.alloc (.cells #[.int .i64 r.mn, .int .i64 r.mo, .int .i64 r.al] 24)).cell? ⟨w.heap.size, 1, none⟩ = some (.int .i64 r.mo) ∧ (w.alloc (.cells #[.int .i64 r.mn, .int .i64 r.mo, .int .i64 r.al] 24)).cell? ⟨w.heap.size, 2, none⟩ = some (.int .i64 r.al)) := Lib.hid ⟨by go_simp, by go_simp, by go_simp⟩
  obtain ⟨M, hM⟩ : ∃ M : Nat, M = 1 + n % 63 := ⟨_, rfl⟩
  obtain ⟨K, hK⟩ : ∃ K : Nat, K = c % 12 := ⟨_, rfl⟩
  have hM1 : 1 ≤ M ∧ M ≤ 63 := by omega
  have hK1 : K ≤ 11 := by omega
  have eM : (1 : Int) + (n : Int) % 63 = (M : Int) := by omega
  have eK : (c : Int) % 12 = (K : Int) := by omega
  have HG1 := Lib.hid (fun W : World => (by have := grace_any r (M : Nat) (K : Nat) W; rw [grace_bad hr] at this; exact this : Calls Try.prog 10 #[.agg #[.int .i64 r.mn, .int .i64 r.mo, .int .i64 r.al], .int .i64 (M : Nat), .int .i64 (K : Nat)] W fun e w' => e = .returned (.tuple #[.int .i64 0, .int .i64 1]) ∧ Below W.heap.size W w'))
  have HG2 := Lib.hid (fun W : World => (by have := grace_any r (M : Nat) ((K : Nat) + 1 : Int) W; rw [grace_bad hr] at this; exact this : Calls Try.prog 10 #[.agg #[.int .i64 r.mn, .int .i64 r.mo, .int .i64 r.al], .int .i64 (M : Nat), .int .i64 ((K : Nat) + 1 : Int)] W fun e w' => e = .returned (.tuple #[.int .i64 0, .int .i64 1]) ∧ Below W.heap.size W w'))
  have HG3 := Lib.hid (fun W : World => (by have := grace_any r ((M : Nat) + 1 : Int) (K : Nat) W; rw [grace_bad hr] at this; exact this : Calls Try.prog 10 #[.agg #[.int .i64 r.mn, .int .i64 r.mo, .int .i64 r.al], .int .i64 ((M : Nat) + 1 : Int), .int .i64 (K : Nat)] W fun e w' => e = .returned (.tuple #[.int .i64 0, .int .i64 1]) ∧ Below W.heap.size W w'))
  have HG4 := Lib.hid (fun W : World => (by have := grace_any r (M : Nat) r.al W; rw [grace_bad hr] at this; exact this : Calls Try.prog 10 #[.agg #[.int .i64 r.mn, .int .i64 r.mo, .int .i64 r.al], .int .i64 (M : Nat), .int .i64 r.al] W fun e w' => e = .returned (.tuple #[.int .i64 0, .int .i64 1]) ∧ Below W.heap.size W w'))
  have HG5 := Lib.hid (fun W : World => (by have := grace_any r (M : Nat) 0 W; rw [grace_bad hr] at this; exact this : Calls Try.prog 10 #[.agg #[.int .i64 r.mn, .int .i64 r.mo, .int .i64 r.al], .int .i64 (M : Nat), .int .i64 0] W fun e w' => e = .returned (.tuple #[.int .i64 0, .int .i64 1]) ∧ Below W.heap.size W w'))
  have HR := Lib.hid (fun W : World => rules_any r W)
  rw [hr] at HR
  clear hr hM hK
  go_enter Try.func4, Try.ntmps4
  go_upto_region 2 with (fail)
  simp only [eK]
  generalize (w.alloc (.cells #[.int .i64 r.mn, .int .i64 r.mo, .int .i64 r.al] 24)) = w0 at *
  clear eM eK
  obtain ⟨x0, x1, x2⟩ := BX0.out
  go_wp2_with fail
  refine (HG1.out _).mono ?_
  rintro e w1 ⟨rfl, hb⟩
  have BX1 : Hid (_ ∧ _ ∧ _) := Lib.hid ⟨cell_on BX0.out.1 hb, cell_on BX0.out.2.1 hb, cell_on BX0.out.2.2 hb⟩
  have HB1 : Hid (Below w.heap.size w w1) := Lib.hid (HB0.out.trans (hb.mono HB0.out.size))
  clear x0 x1 x2 hb HB0 BX0 HG1
  obtain ⟨x0, x1, x2⟩ := BX1.out
  go_wp2_with fail
  refine (HG2.out _).mono ?_
  rintro e w2 ⟨rfl, hb⟩
  have BX2 : Hid (_ ∧ _ ∧ _) := Lib.hid ⟨cell_on BX1.out.1 hb, cell_on BX1.out.2.1 hb, cell_on BX1.out.2.2 hb⟩
  have HB2 : Hid (Below w.heap.size w w2) := Lib.hid (HB1.out.trans (hb.mono HB1.out.size))
  clear x0 x1 x2 hb HB1 BX1 HG2
  obtain ⟨x0, x1, x2⟩ := BX2.out
  go_wp2_with fail
  refine (HG3.out _).mono ?_
  rintro e w3 ⟨rfl, hb⟩
  have BX3 : Hid (_ ∧ _ ∧ _) := Lib.hid ⟨cell_on BX2.out.1 hb, cell_on BX2.out.2.1 hb, cell_on BX2.out.2.2 hb⟩
  have HB3 : Hid (Below w.heap.size w w3) := Lib.hid (HB2.out.trans (hb.mono HB2.out.size))
  clear x0 x1 x2 hb HB2 BX2 HG3
  obtain ⟨x0, x1, x2⟩ := BX3.out
  go_wp2_with fail
  refine (HG4.out _).mono ?_
  rintro e w4 ⟨rfl, hb⟩
  have BX4 : Hid (_ ∧ _ ∧ _) := Lib.hid ⟨cell_on BX3.out.1 hb, cell_on BX3.out.2.1 hb, cell_on BX3.out.2.2 hb⟩
  have HB4 : Hid (Below w.heap.size w w4) := Lib.hid (HB3.out.trans (hb.mono HB3.out.size))
  clear x0 x1 x2 hb HB3 BX3 HG4
  obtain ⟨x0, x1, x2⟩ := BX4.out
  go_wp2_with fail
  refine (HG5.out _).mono ?_
  rintro e w5 ⟨rfl, hb⟩
  have BX5 : Hid (_ ∧ _ ∧ _) := Lib.hid ⟨cell_on BX4.out.1 hb, cell_on BX4.out.2.1 hb, cell_on BX4.out.2.2 hb⟩
  have HB5 : Hid (Below w.heap.size w w5) := Lib.hid (HB4.out.trans (hb.mono HB4.out.size))
  clear x0 x1 x2 hb HB4 BX4 HG5
  obtain ⟨x0, x1, x2⟩ := BX5.out
  go_wp2_with fail
  refine (HR.out _).mono ?_
  rintro e w6 ⟨rfl, hb⟩
  have BX6 : Hid (_ ∧ _ ∧ _) := Lib.hid ⟨cell_on BX5.out.1 hb, cell_on BX5.out.2.1 hb, cell_on BX5.out.2.2 hb⟩
  have HB6 : Hid (Below w.heap.size w w6) := Lib.hid (HB5.out.trans (hb.mono HB5.out.size))
  clear x0 x1 x2 hb HB5 BX5 HR
  obtain ⟨x0, x1, x2⟩ := BX6.out
  go_wp2_with fail
  refine (awake_any _).mono ?_
  rintro e w7 ⟨rfl, hb⟩
  go_wp2_with fail
  go_ret
  exact ⟨rfl, HB6.out.trans (hb.mono HB6.out.size)⟩

set_option maxRecDepth 100000 in
set_option maxHeartbeats 4000000 in
theorem walk_ok (r : Ru) (n c : Nat) (w : World) (hn : n ≤ 255) (hc : c ≤ 255) (hr : rulesB r = true) : Calls Try.prog 4 #[.agg #[.int .i64 r.mn, .int .i64 r.mo, .int .i64 r.al], .int .u8 (n : Int), .int .u8 (c : Int)] w fun e w' => e = .returned (.bool true) ∧ Below w.heap.size w w' := by
  have HB0 : Hid (Below w.heap.size w (w.alloc (.cells #[.int .i64 r.mn, .int .i64 r.mo, .int .i64 r.al] 24))) := Lib.hid ((Below.refl _ w).alloc (Nat.le_refl _) _)
  have BX0 : Hid ((w.alloc (.cells #[.int .i64 r.mn, .int .i64 r.mo, .int .i64 r.al] 24)).cell? ⟨w.heap.size, 0, none⟩ = some (.int .i64 r.mn) ∧ (w.alloc (.cells #[.int .i64 r.mn, .int .i64 r.mo, .int .i64 r.al] 24)).cell? ⟨w.heap.size, 1, none⟩ = some (.int .i64 r.mo) ∧ (w.alloc (.cells #[.int .i64 r.mn, .int .i64 r.mo, .int .i64 r.al] 24)).cell? ⟨w.heap.size, 2, none⟩ = some (.int .i64 r.al)) := Lib.hid ⟨by go_simp, by go_simp, by go_simp⟩
  obtain ⟨M, hM⟩ : ∃ M : Nat, M = 1 + n % 63 := ⟨_, rfl⟩
  obtain ⟨K, hK⟩ : ∃ K : Nat, K = c % 12 := ⟨_, rfl⟩
  have hM1 : 1 ≤ M ∧ M ≤ 63 := by omega
  have hK1 : K ≤ 11 := by omega
  have eM : (1 : Int) + (n : Int) % 63 = (M : Int) := by omega
  have eK : (c : Int) % 12 = (K : Int) := by omega
  have hr' := hr
  obtain ⟨m1, m2, m3, m4, m5, m6, m7, h5⟩ := told hr M (K : Nat) hM1 (by omega)
  have EQ1 : graceA r (M : Nat) (K : Nat) = (graceN r M (K : Nat), 0) := grace_ok hr (by omega) (by omega) (by omega)
  have EQ2 : graceA r (M : Nat) ((K : Nat) + 1 : Int) = (graceN r M ((K : Nat) + 1 : Int), 0) := grace_ok hr (by omega) (by omega) (by omega)
  have EQ3 : graceA r ((M : Nat) + 1 : Int) (K : Nat) = (graceN r (M + 1) (K : Nat), 0) := grace_ok (n := M + 1) hr (by omega) (by omega) (by omega)
  have EQ4 : graceA r (M : Nat) r.al = (graceN r M r.al, 0) := grace_ok hr (by omega) (by omega) h5
  have EQ5 : graceA r (M : Nat) 0 = (graceN r M 0, 0) := grace_ok hr (by omega) (by omega) (by omega)
  generalize graceN r M (K : Nat) = g1 at *
  generalize graceN r M ((K : Nat) + 1 : Int) = g2 at *
  generalize graceN r (M + 1) (K : Nat) = g3 at *
  generalize graceN r M r.al = g4 at *
  generalize graceN r M 0 = g5 at *
  have HG1 := Lib.hid (fun W : World => (by have := grace_any r (M : Nat) (K : Nat) W; rw [EQ1] at this; exact this : Calls Try.prog 10 #[.agg #[.int .i64 r.mn, .int .i64 r.mo, .int .i64 r.al], .int .i64 (M : Nat), .int .i64 (K : Nat)] W fun e w' => e = .returned (.tuple #[.int .i64 g1, .int .i64 0]) ∧ Below W.heap.size W w'))
  have HG2 := Lib.hid (fun W : World => (by have := grace_any r (M : Nat) ((K : Nat) + 1 : Int) W; rw [EQ2] at this; exact this : Calls Try.prog 10 #[.agg #[.int .i64 r.mn, .int .i64 r.mo, .int .i64 r.al], .int .i64 (M : Nat), .int .i64 ((K : Nat) + 1 : Int)] W fun e w' => e = .returned (.tuple #[.int .i64 g2, .int .i64 0]) ∧ Below W.heap.size W w'))
  have HG3 := Lib.hid (fun W : World => (by have := grace_any r ((M : Nat) + 1 : Int) (K : Nat) W; rw [EQ3] at this; exact this : Calls Try.prog 10 #[.agg #[.int .i64 r.mn, .int .i64 r.mo, .int .i64 r.al], .int .i64 ((M : Nat) + 1 : Int), .int .i64 (K : Nat)] W fun e w' => e = .returned (.tuple #[.int .i64 g3, .int .i64 0]) ∧ Below W.heap.size W w'))
  have HG4 := Lib.hid (fun W : World => (by have := grace_any r (M : Nat) r.al W; rw [EQ4] at this; exact this : Calls Try.prog 10 #[.agg #[.int .i64 r.mn, .int .i64 r.mo, .int .i64 r.al], .int .i64 (M : Nat), .int .i64 r.al] W fun e w' => e = .returned (.tuple #[.int .i64 g4, .int .i64 0]) ∧ Below W.heap.size W w'))
  have HG5 := Lib.hid (fun W : World => (by have := grace_any r (M : Nat) 0 W; rw [EQ5] at this; exact this : Calls Try.prog 10 #[.agg #[.int .i64 r.mn, .int .i64 r.mo, .int .i64 r.al], .int .i64 (M : Nat), .int .i64 0] W fun e w' => e = .returned (.tuple #[.int .i64 g5, .int .i64 0]) ∧ Below W.heap.size W w'))
  have HR := Lib.hid (fun W : World => rules_any r W)
  rw [hr] at HR
  have d1 : decide (g2 ≤ g1) = true := by simpa using m1
  have d2 : decide (g1 ≤ g3) = true := by simpa using m2
  have d3 : decide (g4 ≤ g1) = true := by simpa using m3
  have d4 : decide (g1 ≤ g5) = true := by simpa using m4
  have d5 : decide (1 ≤ g4) = true := by simpa using m5
  obtain ⟨P, hP⟩ : ∃ P, P = g4 * r.mo := ⟨_, rfl⟩
  have d6 : IntKind.i64.wrap (g4 * r.mo) = P := by rw [← hP, IntWalk.i64_in _ (by omega)]
  have d7 : decide (g5 ≤ P) = true := by rw [hP]; simpa using m6
  clear hr hr' hM hK EQ1 EQ2 EQ3 EQ4 EQ5 m1 m2 m3 m4 m5 m6 m7 h5 hP
  go_enter Try.func4, Try.ntmps4
  go_upto_region 2 with (fail)
  simp only [eK]
  generalize (w.alloc (.cells #[.int .i64 r.mn, .int .i64 r.mo, .int .i64 r.al] 24)) = w0 at *
  clear eM eK
  obtain ⟨x0, x1, x2⟩ := BX0.out
  go_wp2_with fail
  refine (HG1.out _).mono ?_
  rintro e w1 ⟨rfl, hb⟩
  have BX1 : Hid (_ ∧ _ ∧ _) := Lib.hid ⟨cell_on BX0.out.1 hb, cell_on BX0.out.2.1 hb, cell_on BX0.out.2.2 hb⟩
  have HB1 : Hid (Below w.heap.size w w1) := Lib.hid (HB0.out.trans (hb.mono HB0.out.size))
  clear x0 x1 x2 hb HB0 BX0 HG1
  obtain ⟨x0, x1, x2⟩ := BX1.out
  go_wp2_with fail
  refine (HG2.out _).mono ?_
  rintro e w2 ⟨rfl, hb⟩
  have BX2 : Hid (_ ∧ _ ∧ _) := Lib.hid ⟨cell_on BX1.out.1 hb, cell_on BX1.out.2.1 hb, cell_on BX1.out.2.2 hb⟩
  have HB2 : Hid (Below w.heap.size w w2) := Lib.hid (HB1.out.trans (hb.mono HB1.out.size))
  clear x0 x1 x2 hb HB1 BX1 HG2
  obtain ⟨x0, x1, x2⟩ := BX2.out
  go_wp2_with fail
  refine (HG3.out _).mono ?_
  rintro e w3 ⟨rfl, hb⟩
  have BX3 : Hid (_ ∧ _ ∧ _) := Lib.hid ⟨cell_on BX2.out.1 hb, cell_on BX2.out.2.1 hb, cell_on BX2.out.2.2 hb⟩
  have HB3 : Hid (Below w.heap.size w w3) := Lib.hid (HB2.out.trans (hb.mono HB2.out.size))
  clear x0 x1 x2 hb HB2 BX2 HG3
  obtain ⟨x0, x1, x2⟩ := BX3.out
  go_wp2_with fail
  refine (HG4.out _).mono ?_
  rintro e w4 ⟨rfl, hb⟩
  have BX4 : Hid (_ ∧ _ ∧ _) := Lib.hid ⟨cell_on BX3.out.1 hb, cell_on BX3.out.2.1 hb, cell_on BX3.out.2.2 hb⟩
  have HB4 : Hid (Below w.heap.size w w4) := Lib.hid (HB3.out.trans (hb.mono HB3.out.size))
  clear x0 x1 x2 hb HB3 BX3 HG4
  obtain ⟨x0, x1, x2⟩ := BX4.out
  go_wp2_with fail
  refine (HG5.out _).mono ?_
  rintro e w5 ⟨rfl, hb⟩
  have BX5 : Hid (_ ∧ _ ∧ _) := Lib.hid ⟨cell_on BX4.out.1 hb, cell_on BX4.out.2.1 hb, cell_on BX4.out.2.2 hb⟩
  have HB5 : Hid (Below w.heap.size w w5) := Lib.hid (HB4.out.trans (hb.mono HB4.out.size))
  clear x0 x1 x2 hb HB4 BX4 HG5
  obtain ⟨x0, x1, x2⟩ := BX5.out
  go_wp2_with fail
  refine (HR.out _).mono ?_
  rintro e w6 ⟨rfl, hb⟩
  have BX6 : Hid (_ ∧ _ ∧ _) := Lib.hid ⟨cell_on BX5.out.1 hb, cell_on BX5.out.2.1 hb, cell_on BX5.out.2.2 hb⟩
  have HB6 : Hid (Below w.heap.size w w6) := Lib.hid (HB5.out.trans (hb.mono HB5.out.size))
  clear x0 x1 x2 hb HB5 BX5 HR
  obtain ⟨x0, x1, x2⟩ := BX6.out
  go_wp2_with fail
  refine (awake_any _).mono ?_
  rintro e w7 ⟨rfl, hb⟩
  go_wp2_with fail
  go_ret
  exact ⟨rfl, HB6.out.trans (hb.mono HB6.out.size)⟩

theorem walk (r : Ru) (n c : Nat) (w : World) (hn : n ≤ 255) (hc : c ≤ 255) : Calls Try.prog 4 #[.agg #[.int .i64 r.mn, .int .i64 r.mo, .int .i64 r.al], .int .u8 (n : Int), .int .u8 (c : Int)] w fun e w' => e = .returned (.bool true) ∧ Below w.heap.size w w' := by
  rcases hr : rulesB r with _ | _
  · exact walk_bad r n c w hn hc hr
  · exact walk_ok r n c w hn hc hr

/-! ### the statement -/
theorem parOk : ∀ t ∈ (#[24, 5, 5] : Array TypeId).toList, Try.prog.readableRec t = true ∧ t < Try.prog.types.size := by
  have hall : ([24, 5, 5].all fun t => Try.prog.readableRec t && decide (t < Try.prog.types.size)) = true := by kernel_rfl
  intro t ht
  simpa using List.all_eq_true.1 hall t ht

set_option maxRecDepth 100000 in
/-- What the walk gives, for every argument. -/
theorem contract (H : Type) (enc : TypeId × Value → H) (W : World) (base : Nat) (args : Array Value) (ds gs : List (DataW H)) (before : List MemPlace)
    (hval : ∀ (j : Nat) t v, Try.f4.params[j]? = some t → args[j]? = some v → Value.okWide Try.prog W .any base t v)
    (hW : DataW.Whole enc Try.prog Try.f4.params.toList Rows.graceFallsSpec.vars false W args.toList ds gs before) :
    Calls Try.prog 4 args W fun e W' => ∃ v, e = .returned v ∧ Rows.graceFallsSpec.post enc Try.prog Try.f4 false true false false W args v W' := by
  have hW' := hW
  obtain ⟨p, q, hA0, hV, rfl, hfz, hnd⟩ := hW
  have hA : DataW.TrodAll enc Try.prog W 0 (fun _ => true) true Try.f4.params.toList args.toList ds p := hA0
  rw [Try.params4] at hA hval
  obtain ⟨v0, vs0, d0, ds0, p0, q0, hargs, rfl, rfl, h0, r0⟩ := trodAll_cons hA
  obtain ⟨v1, vs1, d1, ds1, p1, q1, rfl, rfl, rfl, h1, r1⟩ := trodAll_cons r0
  obtain ⟨v2, vs2, d2, ds2, p2, q2, rfl, rfl, rfl, h2, r2⟩ := trodAll_cons r1
  obtain ⟨rfl, rfl, rfl⟩ := trodAll_nil r2
  obtain rfl : args = #[v0, v1, v2] := by cases args; simp_all
  obtain ⟨rfl, rfl⟩ := trodVars_none hV
  obtain ⟨r, rfl, _⟩ := open_rules (hval 0 24 v0 rfl rfl) h0
  obtain ⟨n, rfl, hn⟩ := open_u8 (hval 1 5 v1 rfl rfl) h1
  obtain ⟨c, rfl, hc⟩ := open_u8 (hval 2 5 v2 rfl rfl) h2
  clear hA0
  refine (walk r n c W hn hc).mono fun e W' ⟨he, hb⟩ => ?_
  subst he
  exact ⟨_, rfl, law_post rfl (by rw [Try.params4]; exact parOk) rfl hW' rfl rfl rfl hb⟩

set_option maxRecDepth 100000 in
theorem lifted (os : Os) (started : os.Started) (H : Type) (enc : TypeId × Value → H) :
    ReturnsInHanded {} Try.checked os 4 .any (Rows.graceFallsSpec.pre6 enc Try.prog Try.f4 Rows.graceFallsRow.domain false) (Rows.graceFallsSpec.post enc Try.prog Try.f4 false true false false) := by
  refine returnsInHanded_of_change (C := Try.checked) own started (by kernel_rfl) Try.func4
    (ChangeSpec.witness6 (enc := enc) (C := Try.checked) false ⟨#[], #[.agg #[.int .i64 0, .int .i64 0, .int .i64 0], .int .u8 0, .int .u8 0], []⟩ 8 (by kernel_rfl) (by kernel_rfl) (by kernel_rfl) (by kernel_rfl)) ?_
  intro W base args ds gs before hval hW _ _
  exact contract H enc W base args ds gs before hval hW

/-- THE STATEMENT. -/
theorem said : Rows.GraceFallsSaid :=
  OpenClaim.holds_of_wide 4 Try.f4 rfl rfl rfl rfl rfl rfl rfl ⟨rfl, rfl, rfl, rfl, rfl⟩ rfl rfl rfl rfl rfl (by kernel_rfl) Try.func4 (by kernel_rfl)
    (of_decide_eq_true (by kernel_rfl)) (by unfold Func.isWrapper; first | (rw [if_pos (by decide +kernel)]; kernel_rfl) | (rw [if_neg (by decide +kernel)]; exact ⟨rfl, rfl⟩))
    (fun os started H enc _ => lifted os started H enc)
end Go.Proofs.Ytknpbbplolncpaa.lawFalls
