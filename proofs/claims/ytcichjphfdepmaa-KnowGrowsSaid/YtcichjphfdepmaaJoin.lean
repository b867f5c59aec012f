/-
  The walks of Join and Refute, of the document's Beats, Join and Refute, and of the law's cut.
-/
import Derived.Test.YtcichjphfdepmaaLeaf
namespace Go.Proofs.Ytcichjphfdepmaa
open Go.Sort Go.RowKit Go.Proofs.Ytcichjphfdepmaa.Pure

set_option maxRecDepth 100000 in
set_option maxHeartbeats 1000000 in
theorem few_any (A : Option Addr) (c : Nat) (l : List Kn) (w : World) (hc : l.length ≤ c) (hm : c ≤ maxLen) (h : Lst w A l) :
    ∀ W : World, Calls Try.prog 17 #[.slice A l.length c] W fun e w' => e = .returned (.slice A (l.take 20).length c) ∧ W = w' := fun W => by
  unfold maxLen at hm
  by_cases h1 : 20 < l.length
  · obtain ⟨ad, rfl, _⟩ := h 0 (by omega)
    have e : (l.take 20).length = 20 := by rw [List.length_take]; omega
    rw [e]
    clear e h
    generalize l.length = n at *
    go_enter Try.func17, Try.ntmps17
    go_wp2
    go_ret
    exact ⟨rfl, rfl⟩
  · have e : (l.take 20).length = l.length := by rw [List.length_take]; omega
    rw [e]
    clear e h
    generalize l.length = n at *
    go_enter Try.func17, Try.ntmps17
    go_wp2
    go_ret
    exact ⟨rfl, rfl⟩

set_option maxRecDepth 100000 in
set_option maxHeartbeats 1000000 in
theorem refute_any (own : Int) (x : Kn) (w : World) (hx : Fit x) : Calls Try.prog 9 #[.int .u64 own, .agg #[.int .u64 x.i, .int .i64 x.s]] w fun e w' => e = .returned (.tuple #[.int .u64 (refI own x).1, .int .i64 (refI own x).2]) ∧ Below w.heap.size w w' := by
  have HCK : Hid (∀ (W : World) (g : Nat), Lst W (some ⟨g, 0, none⟩) [x] → Calls Try.prog 14 #[.slice (some ⟨g, 0, none⟩) 1 1] W fun e w' => e = .returned (.int .i64 (okE (mayL [x]))) ∧ Below W.heap.size W w') :=
    Lib.hid fun W g h => check_any (some ⟨g, 0, none⟩) 1 [x] W (Nat.le_of_ble_eq_true rfl) h _ rfl
  have H1 := Lib.hid (fun W => Lst.one W x 24)
  have HL : mayL [x] = mayK x := by simp [mayL]
  rw [HL] at HCK
  clear HL
  have ho : okE true = 0 := rfl
  have hz : okE false = 1 := rfl
  have HR0 : Hid (mayK x = false → refI own x = (0, 1)) := Lib.hid refI_bad
  have HR1 : Hid (mayK x = true → x.i < own ∨ (x.i = own ∧ x.s = 0) → refI own x = (own, 0)) := Lib.hid refI_own
  have HR2 : Hid (mayK x = true → ¬(x.i < own ∨ (x.i = own ∧ x.s = 0)) → x.i = 18446744073709551615 → refI own x = (0, 4)) := Lib.hid refI_large
  have HR3 : Hid (mayK x = true → ¬(x.i < own ∨ (x.i = own ∧ x.s = 0)) → ¬x.i = 18446744073709551615 → refI own x = (x.i + 1, 0)) := Lib.hid refI_more
  have HX : Hid (0 ≤ x.i ∧ x.i ≤ 18446744073709551615) := Lib.hid hx
  obtain ⟨i, s⟩ := x
  simp only at *
  generalize refI own ⟨i, s⟩ = R at *
  generalize mayK ⟨i, s⟩ = M at *
  clear hx
  go_enter Try.func9, Try.ntmps9
  go_upto_region 1 with (fail)
  have HB : Hid (Below w.heap.size w (w.alloc (.cells #[.int .u64 i, .int .i64 s] 24))) := Lib.hid ((Below.refl _ _).alloc (Nat.le_refl _) _)
  have BX : Hid (Bx (w.alloc (.cells #[.int .u64 i, .int .i64 s] 24)) w.heap.size ⟨i, s⟩) := Lib.hid (Bx.new w ⟨i, s⟩ _)
  generalize w.alloc (.cells #[.int .u64 i, .int .i64 s] 24) = w2 at *
  obtain ⟨u0, u1⟩ := BX.out
  simp only at u0 u1
  go_wp2_with fail
  refine (HCK.out _ _ (H1.out _)).mono ?_
  rintro e w3 ⟨rfl, hb3⟩
  have HB3' : Hid (Below w2.heap.size w2 w3) := Lib.hid (((Below.refl _ _).alloc (Nat.le_refl _) _).trans (hb3.mono (by simp)))
  have hz2 : w.heap.size < w2.heap.size := BX.out.lt
  have HB3 : Hid (Below w.heap.size w w3) := Lib.hid (HB.out.trans (HB3'.out.mono (by omega)))
  have BX3 := Lib.hid (BX.out.on HB3'.out)
  clear u0 u1 hb3 BX HCK H1
  obtain ⟨u0, u1⟩ := BX3.out
  simp only at u0 u1
  have hz3 : w.heap.size < w3.heap.size := BX3.out.lt
  rcases M with _ | _
  · obtain rfl := HR0.out rfl
    rw [hz]
    go_wp2_with fail
    go_ret2
    exact ⟨rfl, HB3.out⟩
  rw [ho]
  by_cases b1 : i < own
  · have d1 : decide (i < own) = true := by simpa using b1
    obtain rfl := HR1.out rfl (.inl b1)
    clear b1
    go_wp2_with fail
    go_ret2
    exact ⟨rfl, HB3.out.alloc (by omega) _⟩
  have d1 : decide (i < own) = false := by simpa using b1
  by_cases b2 : i = own ∧ s = 0
  · obtain rfl := HR1.out rfl (.inr b2)
    obtain ⟨rfl, rfl⟩ := b2
    clear b1
    go_wp2_with fail
    go_ret2
    exact ⟨rfl, HB3.out.alloc (by omega) _⟩
  have b3 : ¬(i < own ∨ (i = own ∧ s = 0)) := fun h => h.elim b1 b2
  by_cases b4 : i = 18446744073709551615
  · obtain rfl := HR2.out rfl b3 b4
    subst b4
    by_cases b5 : (18446744073709551615 : Int) = own
    · have b6 : ¬s = 0 := fun h => b2 ⟨b5, h⟩
      subst b5
      clear b1 b2 b3
      go_wp2_with fail
      go_ret2
      exact ⟨rfl, HB3.out.alloc (by omega) _⟩
    · clear b1 b2 b3
      go_wp2_with fail
      go_ret2
      exact ⟨rfl, HB3.out.alloc (by omega) _⟩
  · obtain rfl := HR3.out rfl b3 b4
    have d3 : (i == 18446744073709551615) = false := by simpa using b4
    have wr : IntKind.u64.wrap (i + 1) = i + 1 := IntWalk.u64_in _ (by have := HX.out; omega)
    by_cases b5 : i = own
    · have b6 : ¬s = 0 := fun h => b2 ⟨b5, h⟩
      subst b5
      clear b1 b2 b3 b4
      go_wp2_with fail
      go_ret2
      exact ⟨rfl, HB3.out.alloc (by omega) _⟩
    · clear b1 b2 b3 b4
      go_wp2_with fail
      go_ret2
      exact ⟨rfl, HB3.out.alloc (by omega) _⟩

set_option maxRecDepth 100000 in
set_option maxHeartbeats 1000000 in
theorem rrefute_any (own : Int) (x : Kn) (w : World) (hx : Fit x) : Calls Try.prog 10 #[.int .u64 own, .agg #[.int .u64 x.i, .int .i64 x.s]] w fun e w' => e = .returned (.tuple #[.int .u64 (refI own x).1, .int .i64 (refI own x).2]) ∧ Below w.heap.size w w' := by
  have HCK := Lib.hid (fun W => rmay_any x W)
  have HR0 : Hid (mayK x = false → refI own x = (0, 1)) := Lib.hid refI_bad
  have HR1 : Hid (mayK x = true → x.i < own ∨ (x.i = own ∧ x.s = 0) → refI own x = (own, 0)) := Lib.hid refI_own
  have HR2 : Hid (mayK x = true → ¬(x.i < own ∨ (x.i = own ∧ x.s = 0)) → x.i = 18446744073709551615 → refI own x = (0, 4)) := Lib.hid refI_large
  have HR3 : Hid (mayK x = true → ¬(x.i < own ∨ (x.i = own ∧ x.s = 0)) → ¬x.i = 18446744073709551615 → refI own x = (x.i + 1, 0)) := Lib.hid refI_more
  have HX : Hid (0 ≤ x.i ∧ x.i ≤ 18446744073709551615) := Lib.hid hx
  obtain ⟨i, s⟩ := x
  simp only at *
  generalize refI own ⟨i, s⟩ = R at *
  generalize mayK ⟨i, s⟩ = M at *
  clear hx
  go_enter Try.func10, Try.ntmps10
  go_upto_region 1 with (fail)
  have HB : Hid (Below w.heap.size w (w.alloc (.cells #[.int .u64 i, .int .i64 s] 24))) := Lib.hid ((Below.refl _ _).alloc (Nat.le_refl _) _)
  have BX : Hid (Bx (w.alloc (.cells #[.int .u64 i, .int .i64 s] 24)) w.heap.size ⟨i, s⟩) := Lib.hid (Bx.new w ⟨i, s⟩ _)
  generalize w.alloc (.cells #[.int .u64 i, .int .i64 s] 24) = w2 at *
  obtain ⟨u0, u1⟩ := BX.out
  simp only at u0 u1
  go_wp2_with fail
  refine (HCK.out _).mono ?_
  rintro e w3 ⟨rfl, hb3⟩
  have hz2 : w.heap.size < w2.heap.size := BX.out.lt
  have HB3 : Hid (Below w.heap.size w w3) := Lib.hid (HB.out.trans (hb3.mono (by omega)))
  have BX3 := Lib.hid (BX.out.on hb3)
  clear u0 u1 hb3 BX HCK
  obtain ⟨u0, u1⟩ := BX3.out
  simp only at u0 u1
  rcases M with _ | _
  · obtain rfl := HR0.out rfl
    go_wp2_with fail
    go_ret2
    exact ⟨rfl, HB3.out⟩
  by_cases b1 : i < own
  · have d1 : decide (i < own) = true := by simpa using b1
    obtain rfl := HR1.out rfl (.inl b1)
    clear b1
    go_wp2_with fail
    go_ret2
    exact ⟨rfl, HB3.out⟩
  have d1 : decide (i < own) = false := by simpa using b1
  by_cases b2 : i = own ∧ s = 0
  · obtain rfl := HR1.out rfl (.inr b2)
    obtain ⟨rfl, rfl⟩ := b2
    clear b1
    go_wp2_with fail
    go_ret2
    exact ⟨rfl, HB3.out⟩
  have b3 : ¬(i < own ∨ (i = own ∧ s = 0)) := fun h => h.elim b1 b2
  by_cases b4 : i = 18446744073709551615
  · obtain rfl := HR2.out rfl b3 b4
    subst b4
    by_cases b5 : (18446744073709551615 : Int) = own
    · have b6 : (s == 0) = false := by simpa using fun h => b2 ⟨b5, h⟩
      subst b5
      clear b1 b2 b3
      go_wp2_with fail
      go_ret2
      exact ⟨rfl, HB3.out⟩
    · have b6 : ((18446744073709551615 : Int) == own) = false := by simpa using b5
      clear b1 b2 b3 b5
      go_wp2_with fail
      go_ret2
      exact ⟨rfl, HB3.out⟩
  · obtain rfl := HR3.out rfl b3 b4
    have d3 : (i == 18446744073709551615) = false := by simpa using b4
    have wr : IntKind.u64.wrap (i + 1) = i + 1 := IntWalk.u64_in _ (by have := HX.out; omega)
    by_cases b5 : i = own
    · have b6 : (s == 0) = false := by simpa using fun h => b2 ⟨b5, h⟩
      subst b5
      clear b1 b2 b3 b4
      go_wp2_with fail
      go_ret2
      exact ⟨rfl, HB3.out⟩
    · have b6 : (i == own) = false := by simpa using b5
      clear b1 b2 b3 b4 b5
      go_wp2_with fail
      go_ret2
      exact ⟨rfl, HB3.out⟩

set_option maxRecDepth 100000 in
set_option maxHeartbeats 2000000 in
theorem rbeats_any (x y : Kn) (w : World) : Calls Try.prog 13 #[.agg #[.int .u64 x.i, .int .i64 x.s], .agg #[.int .u64 y.i, .int .i64 y.s]] w fun e w' => e = .returned (.bool (beatsB x y)) ∧ Below w.heap.size w w' := by
  have HX := Lib.hid (fun W => rmay_any x W)
  have HY := Lib.hid (fun W => rmay_any y W)
  have HBT : beatsB x y = (mayK x && mayK y && over x y) := rfl
  have HV : Hid (over x y = decide (y.i < x.i ∨ (x.i = y.i ∧ y.s < x.s))) := Lib.hid rfl
  rw [HBT]
  clear HBT
  generalize over x y = V at *
  generalize mayK x = MX at *
  generalize mayK y = MY at *
  go_enter Try.func13, Try.ntmps13
  go_upto_region 1 with (fail)
  have HB : Hid (Below w.heap.size w ((w.alloc (.cells #[.int .u64 x.i, .int .i64 x.s] 24)).alloc (.cells #[.int .u64 y.i, .int .i64 y.s] 24))) := Lib.hid (((Below.refl _ _).alloc (Nat.le_refl _) _).alloc (by simp) _)
  have BX : Hid (Bx ((w.alloc (.cells #[.int .u64 x.i, .int .i64 x.s] 24)).alloc (.cells #[.int .u64 y.i, .int .i64 y.s] 24)) w.heap.size x) := Lib.hid ((Bx.new w x _).on ((Below.refl _ _).alloc (Nat.le_refl _) _))
  have BY : Hid (Bx ((w.alloc (.cells #[.int .u64 x.i, .int .i64 x.s] 24)).alloc (.cells #[.int .u64 y.i, .int .i64 y.s] 24)) (w.heap.size + 1) y) := Lib.hid (by have := Bx.new (w.alloc (.cells #[.int .u64 x.i, .int .i64 x.s] 24)) y 24; simpa using this)
  generalize (w.alloc (.cells #[.int .u64 x.i, .int .i64 x.s] 24)).alloc (.cells #[.int .u64 y.i, .int .i64 y.s] 24) = w2 at *
  have hz2 : w.heap.size + 1 < w2.heap.size := BY.out.lt
  obtain ⟨u0, u1⟩ := BX.out
  obtain ⟨v0, v1⟩ := BY.out
  go_wp2_with fail
  refine (HX.out _).mono ?_
  rintro e w3 ⟨rfl, hb3⟩
  have HB3 : Hid (Below w.heap.size w w3) := Lib.hid (HB.out.trans (hb3.mono (by omega)))
  have BX3 := Lib.hid (BX.out.on hb3)
  have BY3 := Lib.hid (BY.out.on hb3)
  clear u0 u1 v0 v1 hb3 BX BY HX
  have hz3 : w.heap.size + 1 < w3.heap.size := BY3.out.lt
  rcases MX with _ | _
  · go_wp2_with fail
    go_ret
    exact ⟨by simp, HB3.out⟩
  obtain ⟨u0, u1⟩ := BX3.out
  obtain ⟨v0, v1⟩ := BY3.out
  go_wp2_with fail
  refine (HY.out _).mono ?_
  rintro e w4 ⟨rfl, hb4⟩
  have HB4 : Hid (Below w.heap.size w w4) := Lib.hid (HB3.out.trans (hb4.mono (by omega)))
  have BX4 := Lib.hid (BX3.out.on hb4)
  have BY4 := Lib.hid (BY3.out.on hb4)
  clear u0 u1 v0 v1 hb4 BX3 BY3 HY
  rcases MY with _ | _
  · go_wp2_with fail
    go_ret
    exact ⟨by simp, HB4.out⟩
  obtain ⟨u0, u1⟩ := BX4.out
  obtain ⟨v0, v1⟩ := BY4.out
  generalize x.i = xi at *
  generalize x.s = xs at *
  generalize y.i = yi at *
  generalize y.s = ys at *
  by_cases b1 : yi < xi
  · have d1 : decide (yi < xi) = true := by simpa using b1
    have hV : V = true := by rw [HV.out]; simp [b1]
    subst hV
    clear b1
    go_wp2_with fail
    go_ret
    exact ⟨rfl, HB4.out⟩
  have d1 : decide (yi < xi) = false := by simpa using b1
  by_cases b2 : xi = yi
  · have hV : V = decide (ys < xs) := by rw [HV.out]; simp [b2]
    subst hV b2
    clear b1
    go_wp2_with fail
    go_ret
    exact ⟨by simp, HB4.out⟩
  · have d2 : (xi == yi) = false := by simpa using b2
    have hV : V = false := by rw [HV.out]; simp [b1, b2]
    subst hV
    clear b1 b2
    go_wp2_with fail
    go_ret
    exact ⟨by simp, HB4.out⟩
end Go.Proofs.Ytcichjphfdepmaa
