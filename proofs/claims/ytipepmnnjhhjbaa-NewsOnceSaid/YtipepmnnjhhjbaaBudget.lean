/-
  The walks of Budget, and of the document's.
-/
import Derived.Test.YtipepmnnjhhjbaaTake
namespace Go.Proofs.Ytipepmnnjhhjbaa
open Go.Sort Go.RowKit Go.Proofs.Ytipepmnnjhhjbaa.Pure

/-- May there be a budget? -/
def budB (n f : Int) : Bool := decide (1 ≤ n ∧ n ≤ 64 ∧ 1 ≤ f ∧ f ≤ 8)
/-- How often. -/
def bud (n f : Int) : Int := f * ((Lib.bitLen n.toNat : Nat) : Int)
theorem bits_half (n : Nat) (h : n ≤ 64) (h0 : 0 < n) : Lib.bitLen n = Lib.bitLen (n / 2) + 1 := by
  have : ∀ n : Fin 65, 0 < n.val → Lib.bitLen n.val = Lib.bitLen (n.val / 2) + 1 := by decide
  exact this ⟨n, by omega⟩ h0
theorem bits_le (n : Nat) (h : n ≤ 64) : Lib.bitLen n ≤ 7 := by
  have : ∀ n : Fin 65, Lib.bitLen n.val ≤ 7 := by decide
  exact this ⟨n, by omega⟩

set_option maxRecDepth 100000 in
set_option maxHeartbeats 1000000 in
theorem budget_yes (n f : Int) (w : World) (h : budB n f = true) : Calls Try.prog 10 #[.int .i64 n, .int .i64 f] w fun e w' => e = .returned (.tuple #[.int .i64 (bud n f), .int .i64 0]) ∧ w = w' := by
  unfold budB at h
  rw [decide_eq_true_iff] at h
  obtain ⟨m, hm⟩ : ∃ m : Nat, m = n.toNat := ⟨_, rfl⟩
  have hn : n = (m : Int) := by omega
  subst hn
  have HL := Lib.hid (fun W => len_any m W (by omega))
  have hb := bits_le m (by omega)
  have hbud : bud (m : Int) f = f * ((Lib.bitLen m : Nat) : Int) := by unfold bud; rw [Int.toNat_natCast]
  rw [hbud]
  generalize Lib.bitLen m = l at *
  have hw : IntKind.i64.wrap (f * (l : Int)) = f * (l : Int) := by
    have h1 : f * (l : Int) ≤ 8 * 7 := Int.mul_le_mul (by omega) (by omega) (by omega) (by omega)
    have h2 : 0 ≤ f * (l : Int) := Int.mul_nonneg (by omega) (by omega)
    rw [IntWalk.i64_in _ (by omega)]
  have hu : IntKind.u64.wrap (m : Int) = m := by simp [IntKind.wrap, IntKind.bits, IntKind.signed]; omega
  have e1 : decide ((m : Int) < 1) = false := by simp; omega
  have e1' : ¬(m : Int) < 1 := by omega
  have e2 : decide (64 < (m : Int)) = false := by simp; omega
  have e3 : decide (f < 1) = false := by simp; omega
  have e4 : decide (8 < f) = false := by simp; omega
  have e2' : decide (64 < m) = false := by simp; omega
  have e5' : ¬m = 0 := by omega
  clear h hm hb hbud
  go_enter Try.func10, Try.ntmps10
  go_wp2_with (go_at_call 24; refine (HL.out _).mono ?_; rintro e w1 ⟨rfl, rfl⟩)
  refine bodyPost_ret (v := .tuple #[.int .i64 (f * (l : Int)), .int .i64 0]) (by simp [results, Try.results10, go_sem]) rfl ⟨rfl, rfl⟩

set_option maxRecDepth 100000 in
set_option maxHeartbeats 1000000 in
theorem budget_no (n f : Int) (w : World) (h : budB n f = false) : Calls Try.prog 10 #[.int .i64 n, .int .i64 f] w fun e w' => e = .returned (.tuple #[.int .i64 0, .int .i64 1]) ∧ w = w' := by
  unfold budB at h
  rw [decide_eq_false_iff_not] at h
  go_enter Try.func10, Try.ntmps10
  by_cases b1 : n < 1
  · have e1 : decide (n < 1) = true := by simpa using b1
    clear h
    go_wp2_with fail
    refine bodyPost_ret (v := .tuple #[.int .i64 0, .int .i64 1]) (by simp [results, Try.results10, go_sem]) rfl ⟨rfl, rfl⟩
  have e1 : decide (n < 1) = false := by simpa using b1
  by_cases b2 : 64 < n
  · have e2 : decide (64 < n) = true := by simpa using b2
    clear h b1
    go_wp2_with fail
    refine bodyPost_ret (v := .tuple #[.int .i64 0, .int .i64 1]) (by simp [results, Try.results10, go_sem]) rfl ⟨rfl, rfl⟩
  have e2 : decide (64 < n) = false := by simpa using b2
  by_cases b3 : f < 1
  · have e3 : decide (f < 1) = true := by simpa using b3
    clear h b1 b2
    go_wp2_with fail
    refine bodyPost_ret (v := .tuple #[.int .i64 0, .int .i64 1]) (by simp [results, Try.results10, go_sem]) rfl ⟨rfl, rfl⟩
  have e3 : decide (f < 1) = false := by simpa using b3
  have b4 : 8 < f := by omega
  have e4 : decide (8 < f) = true := by simpa using b4
  clear h b1 b2 b3
  go_wp2_with fail
  refine bodyPost_ret (v := .tuple #[.int .i64 0, .int .i64 1]) (by simp [results, Try.results10, go_sem]) rfl ⟨rfl, rfl⟩

set_option maxRecDepth 100000 in
set_option maxHeartbeats 1000000 in
theorem rbudget_yes (n f : Int) (w : World) (h : budB n f = true) : Calls Try.prog 11 #[.int .i64 n, .int .i64 f] w fun e w' => e = .returned (.int .i64 (bud n f)) ∧ w = w' := by
  unfold budB at h
  rw [decide_eq_true_iff] at h
  obtain ⟨m, hm⟩ : ∃ m : Nat, m = n.toNat := ⟨_, rfl⟩
  have hn : n = (m : Int) := by omega
  subst hn
  have hbud : bud (m : Int) f = f * ((Lib.bitLen m : Nat) : Int) := by unfold bud; rw [Int.toNat_natCast]
  have HB := Lib.hid (bits_le m (by omega))
  have HF := Lib.hid (show 1 ≤ f ∧ f ≤ 8 from ⟨h.2.2.1, h.2.2.2⟩)
  have HM := Lib.hid (show m ≤ 64 by omega)
  have HBUD := Lib.hid hbud
  clear h hm hbud
  generalize bud (m : Int) f = R at *
  go_enter Try.func11, Try.ntmps11
  go_wp2_with fail
  go_loop [0, 5] (fun a b => ∃ j d : Nat, a = .int .i64 j ∧ b = .int .i64 (f * (d : Int)) ∧ Hid (j ≤ 64 ∧ Lib.bitLen m = d + Lib.bitLen j)) (fun a _ => (intOf a).toNat)
  case atStart => exact ⟨m, 0, rfl, by simp, Lib.hid ⟨HM.out, by simp⟩⟩
  case round =>
    obtain ⟨j, d, rfl, rfl, HJ⟩ := hrel
    by_cases hj : 0 < j
    · have e0 : decide ((0 : Int) < (j : Int)) = true := by simpa using hj
      have e0' : decide (0 < j) = true := by simpa using hj
      have hbh := bits_half j HJ.out.1 hj
      have HQ : Hid (j / 2 ≤ 64 ∧ Lib.bitLen m = (d + 1) + Lib.bitLen (j / 2)) := Lib.hid (by have := HJ.out; omega)
      have hd : d ≤ 7 := by have := HJ.out.2; have := HB.out; omega
      have hf := HF.out
      have h1 : f * (d : Int) ≤ 8 * 7 := Int.mul_le_mul (by omega) (by omega) (by omega) (by omega)
      have h2 : 0 ≤ f * (d : Int) := Int.mul_nonneg (by omega) (by omega)
      have h3 : f * (d : Int) + f = f * ((d + 1 : Nat) : Int) := by rw [Int.natCast_add, Int.mul_add]; simp
      have HW : Hid (wrap64 (f * (d : Int) + f) = f * ((d + 1 : Nat) : Int)) := Lib.hid (by unfold wrap64; rw [← h3]; omega)
      have HWA : Hid (wrap64 ((j : Int) / 2) = ((j / 2 : Nat) : Int)) := Lib.hid (by have := HJ.out.1; unfold wrap64; omega)
      have HH : Hid (j / 2 < j) := Lib.hid (by omega)
      clear hbh hd hf h1 h2 h3
      go_wp2_with fail
      rw [HW.out, HWA.out]
      go_round
      case rel => exact ⟨j / 2, d + 1, rfl, rfl, HQ⟩
      case measure => have := HH.out; simp [intOf]; omega
    · have hj0 : j = 0 := by omega
      subst hj0
      have HR : Hid (R = f * (d : Int)) := Lib.hid (by
        rw [HBUD.out]
        have := HJ.out.2
        have h0 : Lib.bitLen 0 = 0 := by decide
        rw [h0] at this
        rw [this]
        simp)
      have e0 : decide ((0 : Int) < ((0 : Nat) : Int)) = false := by decide
      clear hj HBUD
      go_wp2_with fail
      go_ret
      exact ⟨by rw [HR.out]; rfl, rfl⟩
end Go.Proofs.Ytipepmnnjhhjbaa
