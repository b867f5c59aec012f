/-
  Does anything stand in the way?
-/
import Derived.Test.YtlefnohcfnlejaaVd
namespace Go.Proofs.Ytlefnohcfnlejaa
open Go.Sort Go.RowKit Go.Proofs.Ytlefnohcfnlejaa.Pure
set_option maxRecDepth 100000 in
set_option maxHeartbeats 2000000 in
theorem hindered_any (v : Vt) (f e n : Int) (w : World) : Calls Try.prog 24 #[.agg #[.int .u64 v.e, .int .i64 v.t, .int .i64 v.u, .int .i64 v.w, .int .i64 f, .int .u64 e, .int .i64 n]] w fun r w' => r = .returned (.bool (hinB v f e n)) ∧ Below w.heap.size w w' := by
  have HB : Hid (Below w.heap.size w (w.alloc (.cells #[.int .u64 v.e, .int .i64 v.t, .int .i64 v.u, .int .i64 v.w, .int .i64 f, .int .u64 e, .int .i64 n] 62))) := Lib.hid ((Below.refl _ _).alloc (Nat.le_refl _) _)
  have hR : hinB v f e n = (waB v n || ovB v e || tkB v f e || hlB v f n) := rfl
  have HR := Lib.hid hR
  clear hR
  have C0 := Lib.hid (fun W => waits_any v f e n W)
  have C1 := Lib.hid (fun W => isOver_any v f e n W)
  have C2 := Lib.hid (fun W => isTaken_any v f e n W)
  have C3 := Lib.hid (fun W => isHeld_any v f e n W)
  generalize hinB v f e n = R at *
  generalize waB v n = q0 at *
  generalize ovB v e = q1 at *
  generalize tkB v f e = q2 at *
  generalize hlB v f n = q3 at *
  obtain ⟨ve, vt, vu, vw⟩ := v
  simp only at HB C0 C1 C2 C3 ⊢
  have HF : Hid (((w.alloc (.cells #[.int .u64 ve, .int .i64 vt, .int .i64 vu, .int .i64 vw, .int .i64 f, .int .u64 e, .int .i64 n] 62)).alloc (.cells #[.func (.func 31) #[.agg #[.int .u64 ve, .int .i64 vt, .int .i64 vu, .int .i64 vw, .int .i64 f, .int .u64 e, .int .i64 n]] #[], .func (.func 32) #[.agg #[.int .u64 ve, .int .i64 vt, .int .i64 vu, .int .i64 vw, .int .i64 f, .int .u64 e, .int .i64 n]] #[], .func (.func 33) #[.agg #[.int .u64 ve, .int .i64 vt, .int .i64 vu, .int .i64 vw, .int .i64 f, .int .u64 e, .int .i64 n]] #[], .func (.func 34) #[.agg #[.int .u64 ve, .int .i64 vt, .int .i64 vu, .int .i64 vw, .int .i64 f, .int .u64 e, .int .i64 n]] #[]] 26)).cell? ⟨w.heap.size + 1, 0, none⟩ = some (.func (.func 31) #[.agg #[.int .u64 ve, .int .i64 vt, .int .i64 vu, .int .i64 vw, .int .i64 f, .int .u64 e, .int .i64 n]] #[]) ∧ ((w.alloc (.cells #[.int .u64 ve, .int .i64 vt, .int .i64 vu, .int .i64 vw, .int .i64 f, .int .u64 e, .int .i64 n] 62)).alloc (.cells #[.func (.func 31) #[.agg #[.int .u64 ve, .int .i64 vt, .int .i64 vu, .int .i64 vw, .int .i64 f, .int .u64 e, .int .i64 n]] #[], .func (.func 32) #[.agg #[.int .u64 ve, .int .i64 vt, .int .i64 vu, .int .i64 vw, .int .i64 f, .int .u64 e, .int .i64 n]] #[], .func (.func 33) #[.agg #[.int .u64 ve, .int .i64 vt, .int .i64 vu, .int .i64 vw, .int .i64 f, .int .u64 e, .int .i64 n]] #[], .func (.func 34) #[.agg #[.int .u64 ve, .int .i64 vt, .int .i64 vu, .int .i64 vw, .int .i64 f, .int .u64 e, .int .i64 n]] #[]] 26)).cell? ⟨w.heap.size + 1, 1, none⟩ = some (.func (.func 32) #[.agg #[.int .u64 ve, .int .i64 vt, .int .i64 vu, .int .i64 vw, .int .i64 f, .int .u64 e, .int .i64 n]] #[]) ∧ ((w.alloc (.cells #[.int .u64 ve, .int .i64 vt, .int .i64 vu, .int .i64 vw, .int .i64 f, .int .u64 e, .int .i64 n] 62)).alloc (.cells #[.func (.func 31) #[.agg #[.int .u64 ve, .int .i64 vt, .int .i64 vu, .int .i64 vw, .int .i64 f, .int .u64 e, .int .i64 n]] #[], .func (.func 32) #[.agg #[.int .u64 ve, .int .i64 vt, .int .i64 vu, .int .i64 vw, .int .i64 f, .int .u64 e, .int .i64 n]] #[], .func (.func 33) #[.agg #[.int .u64 ve, .int .i64 vt, .int .i64 vu, .int .i64 vw, .int .i64 f, .int .u64 e, .int .i64 n]] #[], .func (.func 34) #[.agg #[.int .u64 ve, .int .i64 vt, .int .i64 vu, .int .i64 vw, .int .i64 f, .int .u64 e, .int .i64 n]] #[]] 26)).cell? ⟨w.heap.size + 1, 2, none⟩ = some (.func (.func 33) #[.agg #[.int .u64 ve, .int .i64 vt, .int .i64 vu, .int .i64 vw, .int .i64 f, .int .u64 e, .int .i64 n]] #[]) ∧ ((w.alloc (.cells #[.int .u64 ve, .int .i64 vt, .int .i64 vu, .int .i64 vw, .int .i64 f, .int .u64 e, .int .i64 n] 62)).alloc (.cells #[.func (.func 31) #[.agg #[.int .u64 ve, .int .i64 vt, .int .i64 vu, .int .i64 vw, .int .i64 f, .int .u64 e, .int .i64 n]] #[], .func (.func 32) #[.agg #[.int .u64 ve, .int .i64 vt, .int .i64 vu, .int .i64 vw, .int .i64 f, .int .u64 e, .int .i64 n]] #[], .func (.func 33) #[.agg #[.int .u64 ve, .int .i64 vt, .int .i64 vu, .int .i64 vw, .int .i64 f, .int .u64 e, .int .i64 n]] #[], .func (.func 34) #[.agg #[.int .u64 ve, .int .i64 vt, .int .i64 vu, .int .i64 vw, .int .i64 f, .int .u64 e, .int .i64 n]] #[]] 26)).cell? ⟨w.heap.size + 1, 3, none⟩ = some (.func (.func 34) #[.agg #[.int .u64 ve, .int .i64 vt, .int .i64 vu, .int .i64 vw, .int .i64 f, .int .u64 e, .int .i64 n]] #[])) := Lib.hid ⟨by go_simp, by go_simp, by go_simp, by go_simp⟩
  have HB2 : Hid (Below w.heap.size w ((w.alloc (.cells #[.int .u64 ve, .int .i64 vt, .int .i64 vu, .int .i64 vw, .int .i64 f, .int .u64 e, .int .i64 n] 62)).alloc (.cells #[.func (.func 31) #[.agg #[.int .u64 ve, .int .i64 vt, .int .i64 vu, .int .i64 vw, .int .i64 f, .int .u64 e, .int .i64 n]] #[], .func (.func 32) #[.agg #[.int .u64 ve, .int .i64 vt, .int .i64 vu, .int .i64 vw, .int .i64 f, .int .u64 e, .int .i64 n]] #[], .func (.func 33) #[.agg #[.int .u64 ve, .int .i64 vt, .int .i64 vu, .int .i64 vw, .int .i64 f, .int .u64 e, .int .i64 n]] #[], .func (.func 34) #[.agg #[.int .u64 ve, .int .i64 vt, .int .i64 vu, .int .i64 vw, .int .i64 f, .int .u64 e, .int .i64 n]] #[]] 26))) := Lib.hid (HB.out.alloc (by simp) _)
  clear HB
  have HP : Hid (∀ W W' : World, Below w.heap.size w W → Below W.heap.size W W' → Below w.heap.size w W') := Lib.hid (fun W W' h h' => h.trans (h'.mono h.size))
  go_enter Try.func24, Try.ntmps24
  go_upto_region 2 with (fail)
  generalize ((w.alloc (.cells #[.int .u64 ve, .int .i64 vt, .int .i64 vu, .int .i64 vw, .int .i64 f, .int .u64 e, .int .i64 n] 62)).alloc (.cells #[.func (.func 31) #[.agg #[.int .u64 ve, .int .i64 vt, .int .i64 vu, .int .i64 vw, .int .i64 f, .int .u64 e, .int .i64 n]] #[], .func (.func 32) #[.agg #[.int .u64 ve, .int .i64 vt, .int .i64 vu, .int .i64 vw, .int .i64 f, .int .u64 e, .int .i64 n]] #[], .func (.func 33) #[.agg #[.int .u64 ve, .int .i64 vt, .int .i64 vu, .int .i64 vw, .int .i64 f, .int .u64 e, .int .i64 n]] #[], .func (.func 34) #[.agg #[.int .u64 ve, .int .i64 vt, .int .i64 vu, .int .i64 vw, .int .i64 f, .int .u64 e, .int .i64 n]] #[]] 26)) = w1 at *
  generalize hgs : w.heap.size + 1 = gs at *
  have hgs1 : gs < w1.heap.size := World.block_lt_of_cell? w1 _ HF.out.1
  clear hgs
  go_loopw [15] (fun a wr => ∃ i : Int, a = .int .i64 i ∧ 0 ≤ i ∧ i ≤ 4 ∧ Hid ((0 < i → q0 = false) ∧ (1 < i → q1 = false) ∧ (2 < i → q2 = false) ∧ (3 < i → q3 = false)) ∧ Hid (Below w1.heap.size w1 wr)) (fun a _ => (4 - intOf a).toNat)
  case atStart => exact ⟨0, rfl, by omega, by omega, Lib.hid ⟨by omega, by omega, by omega, by omega⟩, Lib.hid (Below.refl _ _)⟩
  case round =>
    obtain ⟨i, rfl, hi0, hi4, hq, hb⟩ := hrel
    have HF2 : Hid (wr.cell? ⟨gs, 0, none⟩ = some (.func (.func 31) #[.agg #[.int .u64 ve, .int .i64 vt, .int .i64 vu, .int .i64 vw, .int .i64 f, .int .u64 e, .int .i64 n]] #[]) ∧ wr.cell? ⟨gs, 1, none⟩ = some (.func (.func 32) #[.agg #[.int .u64 ve, .int .i64 vt, .int .i64 vu, .int .i64 vw, .int .i64 f, .int .u64 e, .int .i64 n]] #[]) ∧ wr.cell? ⟨gs, 2, none⟩ = some (.func (.func 33) #[.agg #[.int .u64 ve, .int .i64 vt, .int .i64 vu, .int .i64 vw, .int .i64 f, .int .u64 e, .int .i64 n]] #[]) ∧ wr.cell? ⟨gs, 3, none⟩ = some (.func (.func 34) #[.agg #[.int .u64 ve, .int .i64 vt, .int .i64 vu, .int .i64 vw, .int .i64 f, .int .u64 e, .int .i64 n]] #[])) := Lib.hid ⟨(hb.out.cell hgs1).trans HF.out.1, (hb.out.cell hgs1).trans HF.out.2.1, (hb.out.cell hgs1).trans HF.out.2.2.1, (hb.out.cell hgs1).trans HF.out.2.2.2⟩
    have hB : Hid (Below w.heap.size w wr) := Lib.hid (HB2.out.trans (hb.out.mono HB2.out.size))
    by_cases hk0 : i = 0
    · subst hk0
      obtain ⟨c0, c1, c2, c3⟩ := HF2.out
      clear c1 c2 c3
      clear HF2
      cases hq0 : q0 with
      | true =>
        rw [hq0] at C0
        have HRT : Hid (R = true) := Lib.hid (HR.out.trans (by rw [hq0]; simp))
        clear hq0
        go_wp2_with fail
        refine (C0.out _).mono ?_
        rintro r2 w2 ⟨rfl, hb2⟩
        have HBE := Lib.hid (HP.out _ _ hB.out hb2)
        clear hb2
        go_wp2_with fail
        go_ret
        exact ⟨by rw [HRT.out]; rfl, HBE.out⟩
      | false =>
        have HQ : Hid (_ ∧ _ ∧ _ ∧ _) := Lib.hid (show (0 < (1 : Int) → q0 = false) ∧ (1 < (1 : Int) → q1 = false) ∧ (2 < (1 : Int) → q2 = false) ∧ (3 < (1 : Int) → q3 = false) from ⟨fun _ => hq0, fun h => by omega, fun h => by omega, fun h => by omega⟩)
        rw [hq0] at C0
        clear hq0
        go_wp2_with fail
        refine (C0.out _).mono ?_
        rintro r2 w2 ⟨rfl, hb2⟩
        have HBE := Lib.hid (hb.out.trans (hb2.mono hb.out.size))
        clear hb2
        go_wp2_with fail
        go_roundw
        case rel => exact ⟨1, by go_num, by omega, by omega, Lib.hid ⟨fun _ => trivial, HQ.out.2.1, HQ.out.2.2.1, HQ.out.2.2.2⟩, HBE⟩
        case measure => simp [intOf]
    by_cases hk1 : i = 1
    · subst hk1
      obtain ⟨c0, c1, c2, c3⟩ := HF2.out
      clear c0 c2 c3
      clear HF2
      cases hq1 : q1 with
      | true =>
        rw [hq1] at C1
        have HRT : Hid (R = true) := Lib.hid (HR.out.trans (by rw [hq1]; simp))
        clear hq1
        go_wp2_with fail
        refine (C1.out _).mono ?_
        rintro r2 w2 ⟨rfl, hb2⟩
        have HBE := Lib.hid (HP.out _ _ hB.out hb2)
        clear hb2
        go_wp2_with fail
        go_ret
        exact ⟨by rw [HRT.out]; rfl, HBE.out⟩
      | false =>
        have HQ : Hid (_ ∧ _ ∧ _ ∧ _) := Lib.hid (show (0 < (2 : Int) → q0 = false) ∧ (1 < (2 : Int) → q1 = false) ∧ (2 < (2 : Int) → q2 = false) ∧ (3 < (2 : Int) → q3 = false) from ⟨fun _ => hq.out.1 (by omega), fun _ => hq1, fun h => by omega, fun h => by omega⟩)
        rw [hq1] at C1
        clear hq1
        go_wp2_with fail
        refine (C1.out _).mono ?_
        rintro r2 w2 ⟨rfl, hb2⟩
        have HBE := Lib.hid (hb.out.trans (hb2.mono hb.out.size))
        clear hb2
        go_wp2_with fail
        go_roundw
        case rel => exact ⟨2, by go_num, by omega, by omega, Lib.hid ⟨HQ.out.1, fun _ => trivial, HQ.out.2.2.1, HQ.out.2.2.2⟩, HBE⟩
        case measure => simp [intOf]
    by_cases hk2 : i = 2
    · subst hk2
      obtain ⟨c0, c1, c2, c3⟩ := HF2.out
      clear c0 c1 c3
      clear HF2
      cases hq2 : q2 with
      | true =>
        rw [hq2] at C2
        have HRT : Hid (R = true) := Lib.hid (HR.out.trans (by rw [hq2]; simp))
        clear hq2
        go_wp2_with fail
        refine (C2.out _).mono ?_
        rintro r2 w2 ⟨rfl, hb2⟩
        have HBE := Lib.hid (HP.out _ _ hB.out hb2)
        clear hb2
        go_wp2_with fail
        go_ret
        exact ⟨by rw [HRT.out]; rfl, HBE.out⟩
      | false =>
        have HQ : Hid (_ ∧ _ ∧ _ ∧ _) := Lib.hid (show (0 < (3 : Int) → q0 = false) ∧ (1 < (3 : Int) → q1 = false) ∧ (2 < (3 : Int) → q2 = false) ∧ (3 < (3 : Int) → q3 = false) from ⟨fun _ => hq.out.1 (by omega), fun _ => hq.out.2.1 (by omega), fun _ => hq2, fun h => by omega⟩)
        rw [hq2] at C2
        clear hq2
        go_wp2_with fail
        refine (C2.out _).mono ?_
        rintro r2 w2 ⟨rfl, hb2⟩
        have HBE := Lib.hid (hb.out.trans (hb2.mono hb.out.size))
        clear hb2
        go_wp2_with fail
        go_roundw
        case rel => exact ⟨3, by go_num, by omega, by omega, Lib.hid ⟨HQ.out.1, HQ.out.2.1, fun _ => trivial, HQ.out.2.2.2⟩, HBE⟩
        case measure => simp [intOf]
    by_cases hk3 : i = 3
    · subst hk3
      obtain ⟨c0, c1, c2, c3⟩ := HF2.out
      clear c0 c1 c2
      clear HF2
      cases hq3 : q3 with
      | true =>
        rw [hq3] at C3
        have HRT : Hid (R = true) := Lib.hid (HR.out.trans (by rw [hq3]; simp))
        clear hq3
        go_wp2_with fail
        refine (C3.out _).mono ?_
        rintro r2 w2 ⟨rfl, hb2⟩
        have HBE := Lib.hid (HP.out _ _ hB.out hb2)
        clear hb2
        go_wp2_with fail
        go_ret
        exact ⟨by rw [HRT.out]; rfl, HBE.out⟩
      | false =>
        have HQ : Hid (_ ∧ _ ∧ _ ∧ _) := Lib.hid (show (0 < (4 : Int) → q0 = false) ∧ (1 < (4 : Int) → q1 = false) ∧ (2 < (4 : Int) → q2 = false) ∧ (3 < (4 : Int) → q3 = false) from ⟨fun _ => hq.out.1 (by omega), fun _ => hq.out.2.1 (by omega), fun _ => hq.out.2.2.1 (by omega), fun _ => hq3⟩)
        rw [hq3] at C3
        clear hq3
        go_wp2_with fail
        refine (C3.out _).mono ?_
        rintro r2 w2 ⟨rfl, hb2⟩
        have HBE := Lib.hid (hb.out.trans (hb2.mono hb.out.size))
        clear hb2
        go_wp2_with fail
        go_roundw
        case rel => exact ⟨4, by go_num, by omega, by omega, Lib.hid ⟨HQ.out.1, HQ.out.2.1, HQ.out.2.2.1, fun _ => trivial⟩, HBE⟩
        case measure => simp [intOf]
    have h4 : i = 4 := by omega
    subst h4
    have HRF : Hid (R = false) := Lib.hid (HR.out.trans (by rw [hq.out.1 (by omega), hq.out.2.1 (by omega), hq.out.2.2.1 (by omega), hq.out.2.2.2 (by omega)]; rfl))
    clear HF2
    go_wp2_with fail
    go_ret
    exact ⟨by rw [HRF.out]; rfl, hB.out⟩
end Go.Proofs.Ytlefnohcfnlejaa
