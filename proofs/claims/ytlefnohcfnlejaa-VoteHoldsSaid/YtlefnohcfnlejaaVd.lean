/-
  What stands in a grant's way, one by one.
-/
import Derived.Test.YtlefnohcfnlejaaVb
namespace Go.Proofs.Ytlefnohcfnlejaa
open Go.Sort Go.RowKit Go.Proofs.Ytlefnohcfnlejaa.Pure

/-- It is promised to another one. -/
def anB (v : Vt) (f : Int) : Bool := (v.t != -1) && (v.t != f)
def waB (v : Vt) (n : Int) : Bool := decide (n < v.w)
def ovB (v : Vt) (e : Int) : Bool := decide (e < v.e) || (e == 0)
def tkB (v : Vt) (f e : Int) : Bool := (e == v.e) && anB v f
def hlB (v : Vt) (f n : Int) : Bool := decide (n < v.u) && anB v f
def hinB (v : Vt) (f e n : Int) : Bool := waB v n || ovB v e || tkB v f e || hlB v f n
theorem hin_gr (v : Vt) (f e n : Int) : grB v f e n = !hinB v f e n := by
  have hg := grB_iff v f e n
  have h2 : hinB v f e n = true ↔ n < v.w ∨ (e < v.e ∨ e = 0) ∨ (e = v.e ∧ ¬ v.t = -1 ∧ ¬ v.t = f) ∨ (n < v.u ∧ ¬ v.t = -1 ∧ ¬ v.t = f) := by
    unfold hinB waB ovB tkB hlB anB
    simp only [Bool.or_eq_true, Bool.and_eq_true, decide_eq_true_eq, bne_iff_ne, ne_eq, beq_iff_eq, or_assoc]
  cases h : grB v f e n <;> cases h3 : hinB v f e n
  · rw [h] at hg; rw [h3] at h2
    have a : ¬ _ := fun x => Bool.noConfusion (hg.2 x)
    have b : ¬ _ := fun x => Bool.noConfusion (h2.2 x)
    exfalso; apply a; omega
  · rfl
  · rfl
  · rw [h] at hg; rw [h3] at h2
    have a := hg.1 rfl
    have b := h2.1 rfl
    exfalso; omega
set_option maxRecDepth 100000 in
set_option maxHeartbeats 2000000 in
theorem another_any (v : Vt) (f e n : Int) (w : World) : Calls Try.prog 35 #[.agg #[.int .u64 v.e, .int .i64 v.t, .int .i64 v.u, .int .i64 v.w, .int .i64 f, .int .u64 e, .int .i64 n]] w fun r w' => r = .returned (.bool (anB v f)) ∧ Below w.heap.size w w' := by
  have HB : Hid (Below w.heap.size w (w.alloc (.cells #[.int .u64 v.e, .int .i64 v.t, .int .i64 v.u, .int .i64 v.w, .int .i64 f, .int .u64 e, .int .i64 n] 62))) := Lib.hid ((Below.refl _ _).alloc (Nat.le_refl _) _)
  obtain ⟨R, hR⟩ : ∃ R, R = (anB v f) := ⟨_, rfl⟩
  rw [← hR]
  have hR2 := Lib.hid hR
  unfold anB at hR2
  clear hR
  obtain ⟨ve, vt, vu, vw⟩ := v
  simp only at HB hR2 ⊢
  go_enter Try.func35, Try.ntmps35
  have hc : (vt != -1) = true ∨ (vt != -1) = false := by cases (vt != -1) <;> simp
  rcases hc with e0 | e0
  · have HR := Lib.hid (hR2.out.trans (by rw [e0]))
    clear hR2
    go_wp2_with fail
    go_ret
    exact ⟨by rw [HR.out]; first | rfl | simp, HB.out⟩
  · have HR := Lib.hid (hR2.out.trans (by rw [e0]))
    clear hR2
    go_wp2_with fail
    go_ret
    exact ⟨by rw [HR.out]; first | rfl | simp, HB.out⟩
set_option maxRecDepth 100000 in
set_option maxHeartbeats 2000000 in
theorem waits_any (v : Vt) (f e n : Int) (w : World) : Calls Try.prog 31 #[.agg #[.int .u64 v.e, .int .i64 v.t, .int .i64 v.u, .int .i64 v.w, .int .i64 f, .int .u64 e, .int .i64 n]] w fun r w' => r = .returned (.bool (waB v n)) ∧ Below w.heap.size w w' := by
  have HB : Hid (Below w.heap.size w (w.alloc (.cells #[.int .u64 v.e, .int .i64 v.t, .int .i64 v.u, .int .i64 v.w, .int .i64 f, .int .u64 e, .int .i64 n] 62))) := Lib.hid ((Below.refl _ _).alloc (Nat.le_refl _) _)
  obtain ⟨R, hR⟩ : ∃ R, R = (waB v n) := ⟨_, rfl⟩
  rw [← hR]
  have hR2 := Lib.hid hR
  unfold waB at hR2
  clear hR
  obtain ⟨ve, vt, vu, vw⟩ := v
  simp only at HB hR2 ⊢
  go_enter Try.func31, Try.ntmps31
  go_wp2_with fail
  go_ret
  exact ⟨by rw [hR2.out]; rfl, HB.out⟩
set_option maxRecDepth 100000 in
set_option maxHeartbeats 2000000 in
theorem isOver_any (v : Vt) (f e n : Int) (w : World) : Calls Try.prog 32 #[.agg #[.int .u64 v.e, .int .i64 v.t, .int .i64 v.u, .int .i64 v.w, .int .i64 f, .int .u64 e, .int .i64 n]] w fun r w' => r = .returned (.bool (ovB v e)) ∧ Below w.heap.size w w' := by
  have HB : Hid (Below w.heap.size w (w.alloc (.cells #[.int .u64 v.e, .int .i64 v.t, .int .i64 v.u, .int .i64 v.w, .int .i64 f, .int .u64 e, .int .i64 n] 62))) := Lib.hid ((Below.refl _ _).alloc (Nat.le_refl _) _)
  obtain ⟨R, hR⟩ : ∃ R, R = (ovB v e) := ⟨_, rfl⟩
  rw [← hR]
  have hR2 := Lib.hid hR
  unfold ovB at hR2
  clear hR
  obtain ⟨ve, vt, vu, vw⟩ := v
  simp only at HB hR2 ⊢
  go_enter Try.func32, Try.ntmps32
  have hc : decide (e < ve) = true ∨ decide (e < ve) = false := by cases decide (e < ve) <;> simp
  rcases hc with e0 | e0
  · have HR := Lib.hid (hR2.out.trans (by rw [e0]))
    clear hR2
    go_wp2_with fail
    go_ret
    exact ⟨by rw [HR.out]; first | rfl | simp, HB.out⟩
  · have HR := Lib.hid (hR2.out.trans (by rw [e0]))
    clear hR2
    go_wp2_with fail
    go_ret
    exact ⟨by rw [HR.out]; first | rfl | simp, HB.out⟩
set_option maxRecDepth 100000 in
set_option maxHeartbeats 2000000 in
theorem isTaken_any (v : Vt) (f e n : Int) (w : World) : Calls Try.prog 33 #[.agg #[.int .u64 v.e, .int .i64 v.t, .int .i64 v.u, .int .i64 v.w, .int .i64 f, .int .u64 e, .int .i64 n]] w fun r w' => r = .returned (.bool (tkB v f e)) ∧ Below w.heap.size w w' := by
  have HB : Hid (Below w.heap.size w (w.alloc (.cells #[.int .u64 v.e, .int .i64 v.t, .int .i64 v.u, .int .i64 v.w, .int .i64 f, .int .u64 e, .int .i64 n] 62))) := Lib.hid ((Below.refl _ _).alloc (Nat.le_refl _) _)
  have HC := Lib.hid (fun W => another_any v f e n W)
  obtain ⟨R, hR⟩ : ∃ R, R = (tkB v f e) := ⟨_, rfl⟩
  rw [← hR]
  have hR2 := Lib.hid hR
  unfold tkB at hR2
  clear hR
  generalize anB v f = q at *
  obtain ⟨ve, vt, vu, vw⟩ := v
  simp only at HB hR2 HC ⊢
  go_enter Try.func33, Try.ntmps33
  have hc : (e == ve) = true ∨ (e == ve) = false := by cases (e == ve) <;> simp
  rcases hc with e0 | e0
  · have HR := Lib.hid (hR2.out.trans (by rw [e0]))
    clear hR2
    go_wp2_with fail
    refine (HC.out _).mono ?_
    rintro r2 w2 ⟨rfl, hb⟩
    have HB2 := Lib.hid (HB.out.trans (hb.mono HB.out.size))
    clear hb
    go_wp2_with fail
    go_ret
    exact ⟨by rw [HR.out]; first | rfl | simp, HB2.out⟩
  · have HR := Lib.hid (hR2.out.trans (by rw [e0]))
    clear hR2
    go_wp2_with fail
    go_ret
    exact ⟨by rw [HR.out]; first | rfl | simp, HB.out⟩
set_option maxRecDepth 100000 in
set_option maxHeartbeats 2000000 in
theorem isHeld_any (v : Vt) (f e n : Int) (w : World) : Calls Try.prog 34 #[.agg #[.int .u64 v.e, .int .i64 v.t, .int .i64 v.u, .int .i64 v.w, .int .i64 f, .int .u64 e, .int .i64 n]] w fun r w' => r = .returned (.bool (hlB v f n)) ∧ Below w.heap.size w w' := by
  have HB : Hid (Below w.heap.size w (w.alloc (.cells #[.int .u64 v.e, .int .i64 v.t, .int .i64 v.u, .int .i64 v.w, .int .i64 f, .int .u64 e, .int .i64 n] 62))) := Lib.hid ((Below.refl _ _).alloc (Nat.le_refl _) _)
  have HC := Lib.hid (fun W => another_any v f e n W)
  obtain ⟨R, hR⟩ : ∃ R, R = (hlB v f n) := ⟨_, rfl⟩
  rw [← hR]
  have hR2 := Lib.hid hR
  unfold hlB at hR2
  clear hR
  generalize anB v f = q at *
  obtain ⟨ve, vt, vu, vw⟩ := v
  simp only at HB hR2 HC ⊢
  go_enter Try.func34, Try.ntmps34
  have hc : decide (n < vu) = true ∨ decide (n < vu) = false := by cases decide (n < vu) <;> simp
  rcases hc with e0 | e0
  · have HR := Lib.hid (hR2.out.trans (by rw [e0]))
    clear hR2
    go_wp2_with fail
    refine (HC.out _).mono ?_
    rintro r2 w2 ⟨rfl, hb⟩
    have HB2 := Lib.hid (HB.out.trans (hb.mono HB.out.size))
    clear hb
    go_wp2_with fail
    go_ret
    exact ⟨by rw [HR.out]; first | rfl | simp, HB2.out⟩
  · have HR := Lib.hid (hR2.out.trans (by rw [e0]))
    clear hR2
    go_wp2_with fail
    go_ret
    exact ⟨by rw [HR.out]; first | rfl | simp, HB.out⟩
end Go.Proofs.Ytlefnohcfnlejaa
