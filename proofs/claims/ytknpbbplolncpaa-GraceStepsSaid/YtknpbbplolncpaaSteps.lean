/-
  GraceSteps: each confirmation shortens a grace by as much, but for one tick; behind all there is no more; among twice as many nodes what is least is longer by Min: the law returns true for every input.
-/
import Derived.Test.YtknpbbplolncpaaLaw
namespace Go.Proofs.Ytknpbbplolncpaa.lawSteps
open Go.Sort Go.ChangeShapes Go.WideShapes Go.ChangeAt Go.RowKit Go.Proofs.Ytknpbbplolncpaa.Pure

theorem grace_ok {r : Ru} {n : Nat} {c : Int} (hr : rulesB r = true) (h1 : 1 ≤ n) (h2 : n ≤ 64) (hc : 0 ≤ c) : graceA r n c = (graceN r n c, 0) := by
  unfold graceA
  rw [if_pos (by simp only [mayG, hr, Bool.true_and, Bool.and_eq_true, decide_eq_true_iff]; omega)]
  simp
/-- What is told of graces among so many nodes. -/
structure Told (r : Ru) (M : Nat) (G : Int → Int) (s m : Int) : Prop where
  al : 0 ≤ r.al ∧ r.al ≤ 10
  mn : 1 ≤ r.mn ∧ r.mn ≤ 1000
  all : ∀ c, r.al ≤ c → G c = s
  none : G 0 = m
  b : 1 ≤ s ∧ s ≤ m ∧ m ≤ 140000
  step : ∀ c, 1 ≤ c → c ≤ r.al → (m - s) / r.al ≤ G (c - 1) - G c ∧ G (c - 1) - G c ≤ (m - s) / r.al + 1
  gb : ∀ c, 0 ≤ c → s ≤ G c ∧ G c ≤ m
  twice : graceN r (2 * M) r.al = s + r.mn
theorem told {r : Ru} (hr : rulesB r = true) (M : Nat) (hM : 1 ≤ M ∧ M ≤ 32) : Told r M (graceN r M) (leastN r M) (graceN r M 0) := by
  have hr' := (rulesB_iff r).1 hr
  have hs := least_one hr' hM.1 (by omega : M ≤ 64)
  have hb := least_bounds hr' hM.1 (by omega : M ≤ 64)
  have ht : leastN r (2 * M) = leastN r M + r.mn := by
    unfold leastN
    rw [bits_twice M hM.1 hM.2, Int.natCast_add, Int.mul_add]
    simp
  unfold Rl at hr'
  obtain ⟨h1, ⟨h3, h4⟩, h5, h6⟩ := hr'
  have hle : graceN r M 0 ≤ leastN r M * r.mo := gr_none_le h3 hs h5
  have hm : leastN r M * r.mo ≤ 7000 * 20 := Int.mul_le_mul hb.2 h4 (by omega) (by omega)
  have hall : ∀ c, r.al ≤ c → graceN r M c = leastN r M := fun c hc => gr_all hc
  have hge : ∀ c, 0 ≤ c → leastN r M ≤ graceN r M c ∧ graceN r M c ≤ graceN r M 0 := fun c hc => by
    refine ⟨?_, gr_falls h3 hs h5 hc⟩
    exact Int.le_trans (Int.le_of_eq (hall (max c r.al) (by omega)).symm) (gr_falls h3 hs h5 (show c ≤ max c r.al by omega))
  refine ⟨⟨h5, h6⟩, h1, hall, rfl, ⟨hs, (hge 0 (by omega)).1, by omega⟩, fun c hc hc' => ?_, hge, ?_⟩
  · exact gr_step (by omega) hc'
  · rw [← ht]; exact gr_all (Int.le_refl _)

set_option maxRecDepth 100000 in
set_option maxHeartbeats 4000000 in
theorem walk_bad (r : Ru) (n : Nat) (w : World) (hn : n ≤ 255) (hr : rulesB r = false) : Calls Try.prog 8 #[.agg #[.int .i64 r.mn, .int .i64 r.mo, .int .i64 r.al], .int .u8 (n : Int)] w fun e w' => e = .returned (.bool true) ∧ Below w.heap.size w w' := by
  have HB0 : Hid (Below w.heap.size w (w.alloc (.cells #[.int .i64 r.mn, .int .i64 r.mo, .int .i64 r.al] 24))) := Lib.hid ((Below.refl _ w).alloc (Nat.le_refl _) _)
  have BX0 : Hid ((w.alloc (.cells #[.int .i64 r.mn, .int .i64 r.mo, .int .i64 r.al] 24)).cell? ⟨w.heap.size, 0, none⟩ = some (.int .i64 r.mn) ∧ (w.alloc (.cells #[.int .i64 r.mn, .int .i64 r.mo, .int .i64 r.al] 24)).cell? ⟨w.heap.size, 1, none⟩ = some (.int .i64 r.mo) ∧ (w.alloc (.cells #[.int .i64 r.mn, .int .i64 r.mo, .int .i64 r.al] 24)).cell? ⟨w.heap.size, 2, none⟩ = some (.int .i64 r.al)) := Lib.hid ⟨by go_simp, by go_simp, by go_simp⟩
  obtain ⟨M, hM⟩ : ∃ M : Nat, M = 1 + n % 32 := ⟨_, rfl⟩
  have hM1 : 1 ≤ M ∧ M ≤ 32 := by omega
  have eM : (1 : Int) + (n : Int) % 32 = (M : Int) := by omega
  have HM := Lib.hid (fun W : World => mayR_any r W)
  rw [hr, show okE false = 1 from rfl] at HM
  clear hr hM
  go_enter Try.func8, Try.ntmps8
  go_upto_region 2 with (fail)
  generalize (w.alloc (.cells #[.int .i64 r.mn, .int .i64 r.mo, .int .i64 r.al] 24)) = w0 at *
  clear eM
  obtain ⟨x0, x1, x2⟩ := BX0.out
  go_wp2_with fail
  refine (HM.out _).mono ?_
  rintro e w1 ⟨rfl, hb⟩
  have BX1 : Hid (_ ∧ _ ∧ _) := Lib.hid ⟨cell_on BX0.out.1 hb, cell_on BX0.out.2.1 hb, cell_on BX0.out.2.2 hb⟩
  have HB1 : Hid (Below w.heap.size w w1) := Lib.hid (HB0.out.trans (hb.mono HB0.out.size))
  clear x0 x1 x2 hb HB0 BX0
  obtain ⟨x0, x1, x2⟩ := BX1.out
  go_wp2_with fail
  refine (awake_any _).mono ?_
  rintro e w7 ⟨rfl, hb⟩
  go_wp2_with fail
  go_ret
  exact ⟨rfl, HB1.out.trans (hb.mono HB1.out.size)⟩

set_option maxRecDepth 100000 in
set_option maxHeartbeats 4000000 in
theorem walk_ok (r : Ru) (n : Nat) (w : World) (hn : n ≤ 255) (hr : rulesB r = true) : Calls Try.prog 8 #[.agg #[.int .i64 r.mn, .int .i64 r.mo, .int .i64 r.al], .int .u8 (n : Int)] w fun e w' => e = .returned (.bool true) ∧ Below w.heap.size w w' := by
  have HB0 : Hid (Below w.heap.size w (w.alloc (.cells #[.int .i64 r.mn, .int .i64 r.mo, .int .i64 r.al] 24))) := Lib.hid ((Below.refl _ w).alloc (Nat.le_refl _) _)
  have BX0 : Hid ((w.alloc (.cells #[.int .i64 r.mn, .int .i64 r.mo, .int .i64 r.al] 24)).cell? ⟨w.heap.size, 0, none⟩ = some (.int .i64 r.mn) ∧ (w.alloc (.cells #[.int .i64 r.mn, .int .i64 r.mo, .int .i64 r.al] 24)).cell? ⟨w.heap.size, 1, none⟩ = some (.int .i64 r.mo) ∧ (w.alloc (.cells #[.int .i64 r.mn, .int .i64 r.mo, .int .i64 r.al] 24)).cell? ⟨w.heap.size, 2, none⟩ = some (.int .i64 r.al)) := Lib.hid ⟨by go_simp, by go_simp, by go_simp⟩
  obtain ⟨M, hM⟩ : ∃ M : Nat, M = 1 + n % 32 := ⟨_, rfl⟩
  have hM1 : 1 ≤ M ∧ M ≤ 32 := by omega
  have eM : (1 : Int) + (n : Int) % 32 = (M : Int) := by omega
  have T := told hr M hM1
  have HM := Lib.hid (fun W : World => mayR_any r W)
  rw [hr, show okE true = 0 from rfl] at HM
  obtain ⟨a1, a2⟩ := T.al
  obtain ⟨b1, b2, b3⟩ := T.b
  obtain ⟨m1, m2⟩ := T.mn
  obtain ⟨M2, hM2⟩ : ∃ M2 : Int, M2 = 2 * (M : Int) := ⟨_, rfl⟩
  obtain ⟨A5, hA5⟩ : ∃ A5 : Int, A5 = r.al + 5 := ⟨_, rfl⟩
  have HGA : Hid (∀ (c : Int) (W : World), 0 ≤ c → Calls Try.prog 10 #[.agg #[.int .i64 r.mn, .int .i64 r.mo, .int .i64 r.al], .int .i64 (M : Nat), .int .i64 c] W fun e w' => e = .returned (.tuple #[.int .i64 (graceN r M c), .int .i64 0]) ∧ Below W.heap.size W w') := Lib.hid (fun c W hc => by have := grace_any r (M : Nat) c W; rw [grace_ok hr (by omega) (by omega) hc] at this; exact this)
  have HT2 : Hid (∀ W : World, Calls Try.prog 10 #[.agg #[.int .i64 r.mn, .int .i64 r.mo, .int .i64 r.al], .int .i64 M2, .int .i64 r.al] W fun e w' => e = .returned (.tuple #[.int .i64 (leastN r M + r.mn), .int .i64 0]) ∧ Below W.heap.size W w') := Lib.hid (fun W => by
    have := grace_any r ((2 * M : Nat) : Int) r.al W
    rw [grace_ok hr (by omega) (by omega) a1, T.twice] at this
    rw [hM2]
    simpa using this)
  have HTT := Lib.hid T
  generalize hs : leastN r M = s at *
  generalize hm : graceN r M 0 = m at *
  generalize hG : graceN r M = G at *
  obtain ⟨D, hD⟩ : ∃ D : Int, D = m - s := ⟨_, rfl⟩
  obtain ⟨Q, hQ⟩ : ∃ Q : Int, Q = D / r.al := ⟨_, rfl⟩
  have HG2 : Hid (∀ W : World, Calls Try.prog 10 #[.agg #[.int .i64 r.mn, .int .i64 r.mo, .int .i64 r.al], .int .i64 (M : Nat), .int .i64 r.al] W fun e w' => e = .returned (.tuple #[.int .i64 s, .int .i64 0]) ∧ Below W.heap.size W w') := Lib.hid (fun W => by have := HGA.out r.al W a1; rwa [T.all _ (Int.le_refl _)] at this)
  have HG3 : Hid (∀ W : World, Calls Try.prog 10 #[.agg #[.int .i64 r.mn, .int .i64 r.mo, .int .i64 r.al], .int .i64 (M : Nat), .int .i64 0] W fun e w' => e = .returned (.tuple #[.int .i64 m, .int .i64 0]) ∧ Below W.heap.size W w') := Lib.hid (fun W => by have := HGA.out 0 W (Int.le_refl _); rwa [T.none] at this)
  have HG5 : Hid (∀ W : World, Calls Try.prog 10 #[.agg #[.int .i64 r.mn, .int .i64 r.mo, .int .i64 r.al], .int .i64 (M : Nat), .int .i64 A5] W fun e w' => e = .returned (.tuple #[.int .i64 s, .int .i64 0]) ∧ Below W.heap.size W w') := Lib.hid (fun W => by have := HGA.out A5 W (by omega); rwa [T.all _ (by omega)] at this)
  have HQB : Hid (r.al ≠ 0 → 0 ≤ Q ∧ Q ≤ 140000) := Lib.hid (fun ha => by
    rw [hQ]
    exact ⟨Int.ediv_nonneg (by omega) (by omega), Int.le_trans (Int.ediv_le_self _ (by omega)) (by omega)⟩)
  have HQT : Hid (D.tdiv r.al = Q) := Lib.hid (by rw [hQ, Int.tdiv_eq_ediv_of_nonneg (by omega)])
  have HD : Hid (IntKind.i64.wrap (m - s) = D) := Lib.hid (by rw [← hD, IntWalk.i64_in _ (by omega)])
  have HST : Hid (∀ c, 1 ≤ c → c ≤ r.al → Q ≤ G (c - 1) - G c ∧ G (c - 1) - G c ≤ Q + 1) := Lib.hid (fun c h1 h2 => by rw [hQ, hD]; exact T.step c h1 h2)
  have p5 : IntKind.i64.wrap (r.al + 5) = A5 := by rw [← hA5, IntWalk.i64_in _ (by omega)]
  have pM : IntKind.i64.wrap (2 * (M : Int)) = M2 := by rw [← hM2, IntWalk.i64_in _ (by omega)]
  obtain ⟨S2, hS2⟩ : ∃ S2 : Int, S2 = s + r.mn := ⟨_, rfl⟩
  have pS : IntKind.i64.wrap (s + r.mn) = S2 := by rw [← hS2, IntWalk.i64_in _ (by omega)]
  have HPS := Lib.hid pS
  rw [← hS2] at HT2
  have HA1 := Lib.hid a1
  have HA2 := Lib.hid a2
  have HMS := Lib.hid b3
  have HP5 := Lib.hid p5
  have HPM := Lib.hid pM
  have HS1 := Lib.hid b1
  clear T hr hM hs hm hG hD hQ hM2 hA5 hS2 a1 a2 b1 b2 b3 m1 m2 p5 pM pS
  go_enter Try.func8, Try.ntmps8
  go_upto_region 2 with (fail)
  generalize (w.alloc (.cells #[.int .i64 r.mn, .int .i64 r.mo, .int .i64 r.al] 24)) = w0 at *
  clear eM
  obtain ⟨x0, x1, x2⟩ := BX0.out
  go_wp2_with fail
  refine (HM.out _).mono ?_
  rintro e w1 ⟨rfl, hb⟩
  have BX1 : Hid (_ ∧ _ ∧ _) := Lib.hid ⟨cell_on BX0.out.1 hb, cell_on BX0.out.2.1 hb, cell_on BX0.out.2.2 hb⟩
  have HB1 : Hid (Below w.heap.size w w1) := Lib.hid (HB0.out.trans (hb.mono HB0.out.size))
  clear x0 x1 x2 hb HB0 BX0
  obtain ⟨x0, x1, x2⟩ := BX1.out
  go_wp2_with fail
  refine (HG2.out _).mono ?_
  rintro e w2 ⟨rfl, hb⟩
  have BX2 : Hid (_ ∧ _ ∧ _) := Lib.hid ⟨cell_on BX1.out.1 hb, cell_on BX1.out.2.1 hb, cell_on BX1.out.2.2 hb⟩
  have HB2 : Hid (Below w.heap.size w w2) := Lib.hid (HB1.out.trans (hb.mono HB1.out.size))
  clear x0 x1 x2 hb HB1 BX1
  obtain ⟨x0, x1, x2⟩ := BX2.out
  go_wp2_with fail
  refine (HG3.out _).mono ?_
  rintro e w3 ⟨rfl, hb⟩
  have BX3 : Hid (_ ∧ _ ∧ _) := Lib.hid ⟨cell_on BX2.out.1 hb, cell_on BX2.out.2.1 hb, cell_on BX2.out.2.2 hb⟩
  have HB3 : Hid (Below w.heap.size w w3) := Lib.hid (HB2.out.trans (hb.mono HB2.out.size))
  clear x0 x1 x2 hb HB2 BX2
  clear HM HG2 HG3
  go_wp2_with fail
  go_loopw [10, 11] (fun lv i wr => ∃ (k : Nat) (x : Int), lv = .int .i64 x ∧ i = .int .i64 (k : Int) ∧ 1 ≤ k ∧ (k : Int) ≤ r.al + 1 ∧ Hid (x = G ((k : Int) - 1)) ∧ Hid (Below w3.heap.size w3 wr)) (fun _ i _ => 20 - (intOf i).toNat)
  case atStart => exact ⟨1, m, rfl, rfl, Nat.le_refl _, by have := HA1.out; omega, Lib.hid (by rw [← HTT.out.none]; rfl), Lib.hid (Below.refl _ _)⟩
  case round =>
    obtain ⟨k, x, rfl, rfl, hk1, hk2, HX, HBq⟩ := hrel
    obtain ⟨x0, x1, x2⟩ := BX3.out
    have x0 := cell_on x0 HBq.out
    have x1 := cell_on x1 HBq.out
    have x2 := cell_on x2 HBq.out
    by_cases hlt : (k : Int) ≤ r.al
    · have e0 : decide ((k : Int) ≤ r.al) = true := by simpa using hlt
      have ha0 : ¬ r.al = 0 := by omega
      have hqb := HQB.out ha0
      have hst := HST.out (k : Int) (by omega) hlt
      rw [← HX.out] at hst
      have hgb := HTT.out.gb (k : Int) (by omega)
      have hxb := HTT.out.gb ((k : Int) - 1) (by omega)
      rw [← HX.out] at hxb
      have HGk := Lib.hid (fun W => HGA.out (k : Int) W (by omega))
      have HY : Hid (G (k : Int) = G (((k + 1 : Nat) : Int) - 1)) := Lib.hid (by congr 1; omega)
      generalize G (k : Int) = y at *
      obtain ⟨z, hz⟩ : ∃ z : Int, z = x - y := ⟨_, rfl⟩
      obtain ⟨Q1, hQ1⟩ : ∃ Q1 : Int, Q1 = Q + 1 := ⟨_, rfl⟩
      have hms := HMS.out
      have hs1 := HS1.out
      have v1 : IntKind.i64.wrap (x - y) = z := by rw [← hz, IntWalk.i64_in _ (by omega)]
      have v2 : IntKind.i64.wrap (Q + 1) = Q1 := by rw [← hQ1, IntWalk.i64_in _ (by omega)]
      have v3 : IntKind.i64.wrap Q = Q := by rw [IntWalk.i64_in _ (by omega)]
      have d1 : decide (z < Q) = false := by simp; omega
      have d2 : decide (Q1 < z) = false := by simp; omega
      have hqt := HQT.out
      have hdd := HD.out
      have hkk : (k : Int) ≤ 10 := by have := HA2.out; omega
      clear hst hgb hxb hz hQ1 hms hs1 hqb HX
      go_wp2_with fail
      refine (HGk.out _).mono ?_
      rintro e w4 ⟨rfl, hb⟩
      have HB4 : Hid (Below w3.heap.size w3 w4) := Lib.hid (HBq.out.trans (hb.mono HBq.out.size))
      have x0 := cell_on x0 hb
      have x1 := cell_on x1 hb
      have x2 := cell_on x2 hb
      clear hb HBq HGk
      go_wp2_with fail
      go_roundw
      case rel => exact ⟨k + 1, y, rfl, by go_num, by omega, by omega, HY, HB4⟩
      case measure => simp [intOf]; omega
    · have hke : (k : Int) = r.al + 1 := by omega
      obtain rfl : x = s := by rw [HX.out, hke]; exact HTT.out.all _ (by omega)
      have e0 : decide ((k : Int) ≤ r.al) = false := by simpa using hlt
      have HB3' : Hid (Below w.heap.size w wr) := Lib.hid (HB3.out.trans (HBq.out.mono HB3.out.size))
      have BX4 : Hid (_ ∧ _ ∧ _) := Lib.hid ⟨x0, x1, x2⟩
      have p5 := HP5.out
      have pM := HPM.out
      have pS := HPS.out
      clear x0 x1 x2 hke hlt HX HBq BX3 HB3 hk1 hk2 HQB HST
      obtain ⟨x0, x1, x2⟩ := BX4.out
      go_wp2_with fail
      refine (HG5.out _).mono ?_
      rintro e w5 ⟨rfl, hb⟩
      have BXn1 : Hid (_ ∧ _ ∧ _) := Lib.hid ⟨cell_on BX4.out.1 hb, cell_on BX4.out.2.1 hb, cell_on BX4.out.2.2 hb⟩
      have HBn1 : Hid (Below w.heap.size w w5) := Lib.hid (HB3'.out.trans (hb.mono HB3'.out.size))
      clear x0 x1 x2 hb HB3' BX4
      obtain ⟨x0, x1, x2⟩ := BXn1.out
      go_wp2_with fail
      refine (HT2.out _).mono ?_
      rintro e w6 ⟨rfl, hb⟩
      have BXn2 : Hid (_ ∧ _ ∧ _) := Lib.hid ⟨cell_on BXn1.out.1 hb, cell_on BXn1.out.2.1 hb, cell_on BXn1.out.2.2 hb⟩
      have HBn2 : Hid (Below w.heap.size w w6) := Lib.hid (HBn1.out.trans (hb.mono HBn1.out.size))
      clear x0 x1 x2 hb HBn1 BXn1
      obtain ⟨x0, x1, x2⟩ := BXn2.out
      go_wp2_with fail
      refine (awake_any _).mono ?_
      rintro e w7 ⟨rfl, hb⟩
      go_wp2_with fail
      go_ret
      exact ⟨rfl, HBn2.out.trans (hb.mono HBn2.out.size)⟩

theorem walk (r : Ru) (n : Nat) (w : World) (hn : n ≤ 255) : Calls Try.prog 8 #[.agg #[.int .i64 r.mn, .int .i64 r.mo, .int .i64 r.al], .int .u8 (n : Int)] w fun e w' => e = .returned (.bool true) ∧ Below w.heap.size w w' := by
  rcases hr : rulesB r with _ | _
  · exact walk_bad r n w hn hr
  · exact walk_ok r n w hn hr

/-! ### the statement -/
theorem parOk : ∀ t ∈ (#[24, 5] : Array TypeId).toList, Try.prog.readableRec t = true ∧ t < Try.prog.types.size := by
  have hall : ([24, 5].all fun t => Try.prog.readableRec t && decide (t < Try.prog.types.size)) = true := by kernel_rfl
  intro t ht
  simpa using List.all_eq_true.1 hall t ht

set_option maxRecDepth 100000 in
/-- What the walk gives, for every argument. -/
theorem contract (H : Type) (enc : TypeId × Value → H) (W : World) (base : Nat) (args : Array Value) (ds gs : List (DataW H)) (before : List MemPlace)
    (hval : ∀ (j : Nat) t v, Try.f8.params[j]? = some t → args[j]? = some v → Value.okWide Try.prog W .any base t v)
    (hW : DataW.Whole enc Try.prog Try.f8.params.toList Rows.graceStepsSpec.vars false W args.toList ds gs before) :
    Calls Try.prog 8 args W fun e W' => ∃ v, e = .returned v ∧ Rows.graceStepsSpec.post enc Try.prog Try.f8 false true false false W args v W' := by
  have hW' := hW
  obtain ⟨p, q, hA0, hV, rfl, hfz, hnd⟩ := hW
  have hA : DataW.TrodAll enc Try.prog W 0 (fun _ => true) true Try.f8.params.toList args.toList ds p := hA0
  rw [Try.params8] at hA hval
  obtain ⟨v0, vs0, d0, ds0, p0, q0, hargs, rfl, rfl, h0, r0⟩ := trodAll_cons hA
  obtain ⟨v1, vs1, d1, ds1, p1, q1, rfl, rfl, rfl, h1, r1⟩ := trodAll_cons r0
  obtain ⟨rfl, rfl, rfl⟩ := trodAll_nil r1
  obtain rfl : args = #[v0, v1] := by cases args; simp_all
  obtain ⟨rfl, rfl⟩ := trodVars_none hV
  obtain ⟨r, rfl, _⟩ := open_rules (hval 0 24 v0 rfl rfl) h0
  obtain ⟨n, rfl, hn⟩ := open_u8 (hval 1 5 v1 rfl rfl) h1
  clear hA0
  refine (walk r n W hn).mono fun e W' ⟨he, hb⟩ => ?_
  subst he
  exact ⟨_, rfl, law_post rfl (by rw [Try.params8]; exact parOk) rfl hW' rfl rfl rfl hb⟩

set_option maxRecDepth 100000 in
theorem lifted (os : Os) (started : os.Started) (H : Type) (enc : TypeId × Value → H) :
    ReturnsInHanded {} Try.checked os 8 .any (Rows.graceStepsSpec.pre6 enc Try.prog Try.f8 Rows.graceStepsRow.domain false) (Rows.graceStepsSpec.post enc Try.prog Try.f8 false true false false) := by
  refine returnsInHanded_of_change (C := Try.checked) own started (by kernel_rfl) Try.func8
    (ChangeSpec.witness6 (enc := enc) (C := Try.checked) false ⟨#[], #[.agg #[.int .i64 0, .int .i64 0, .int .i64 0], .int .u8 0], []⟩ 8 (by kernel_rfl) (by kernel_rfl) (by kernel_rfl) (by kernel_rfl)) ?_
  intro W base args ds gs before hval hW _ _
  exact contract H enc W base args ds gs before hval hW

/-- THE STATEMENT. -/
theorem said : Rows.GraceStepsSaid :=
  OpenClaim.holds_of_wide 8 Try.f8 rfl rfl rfl rfl rfl rfl rfl ⟨rfl, rfl, rfl, rfl, rfl⟩ rfl rfl rfl rfl rfl (by kernel_rfl) Try.func8 (by kernel_rfl)
    (of_decide_eq_true (by kernel_rfl)) (by unfold Func.isWrapper; first | (rw [if_pos (by decide +kernel)]; kernel_rfl) | (rw [if_neg (by decide +kernel)]; exact ⟨rfl, rfl⟩))
    (fun os started H enc _ => lifted os started H enc)
end Go.Proofs.Ytknpbbplolncpaa.lawSteps
