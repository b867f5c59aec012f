/-
  The walk of the document's TakeNum.
-/
import Derived.Test.YtlpnhpnigljlnaaDoorTake
namespace Go.Proofs.YtlpnhpnigljlnaaDoor
open Go.RowKit Go.Proofs.YtlpnhpnigljlnaaDoor.Pure

theorem pow_nine : (128 : Nat) ^ 9 = 9223372036854775808 := by decide
theorem mul_in (o W : Nat) (h : o % 128 * W < 2 ^ 64) : IntKind.u64.wrap ((o : Int) % 128 * (W : Int)) = ((o % 128 * W : Nat) : Int) := by
  rw [show ((o : Int) % 128 * (W : Int)) = ((o % 128 * W : Nat) : Int) by simp, IntWalk.u64_in _ ⟨by omega, by omega⟩]
theorem add_in (N o W : Nat) (h : N + o % 128 * W < 2 ^ 64) : IntKind.u64.wrap ((N : Int) + (o : Int) % 128 * (W : Int)) = ((N + o % 128 * W : Nat) : Int) := by
  rw [show ((N : Int) + (o : Int) % 128 * (W : Int)) = ((N + o % 128 * W : Nat) : Int) by simp, IntWalk.u64_in _ ⟨by omega, by omega⟩]
theorem num_whole (N k o : Nat) (hN : N < 128 ^ k) (hk : k ≤ 9) (h9 : k = 9 → o ≤ 1) (ho : o < 256) : N + o % 128 * 128 ^ k < 2 ^ 64 := by
  have h8 : (128 : Nat) ^ 8 = 72057594037927936 := by decide
  rcases Nat.lt_or_ge k 9 with h | h
  · have h1 : 128 ^ k ≤ 128 ^ 8 := Nat.pow_le_pow_right (by decide) (by omega)
    have h2 : o % 128 * 128 ^ k ≤ 127 * 128 ^ k := Nat.mul_le_mul_right _ (by omega)
    omega
  · obtain rfl : k = 9 := by omega
    have h1 := h9 rfl
    have h3 : o % 128 * 128 ^ 9 ≤ 1 * 128 ^ 9 := Nat.mul_le_mul_right _ (by omega)
    have := pow_nine
    omega

set_option maxRecDepth 100000 in
set_option maxHeartbeats 2000000 in
theorem rtake_in (s : ByteArray) (a : Nat) (w : World) (hs : s.size ≤ 140737488351232) (ha : a ≤ s.size) :
    Calls Tryd.prog 25 #[.string s, .int .i64 a] w fun e w' => e = .returned (takeV a (takeL (s.data.toList.drop a) 0 0)) ∧ w = w' := by
  have d1 : decide ((a : Int) < 0) = false := by simp
  have d2 : decide (s.size < a) = false := by simp; omega
  go_enter Tryd.func25, Tryd.ntmps25
  go_wp2
  go_loop [7, 8, 9] (fun n W i => ∃ k N : Nat, TakeInv s a k N ∧ i = .int .i64 ((a + k : Nat) : Int) ∧ n = .int .u64 N ∧ W = .int .u64 ((128 ^ k : Nat) : Int)) (fun _ _ i => s.size - (intOf i).toNat)
  case atStart => exact ⟨0, 0, take_zero s a ha, rfl, rfl, rfl⟩
  case round =>
    obtain ⟨k, N, hI, rfl, rfl, rfl⟩ := hrel
    have hk9 : k ≤ 9 := hI.2.2.1
    have hka : a + k ≤ s.size := hI.2.2.2
    have hN := hI.2.1
    have HW : Hid ((128 : Nat) ^ (k + 1) = 128 ^ k * 128) := Lib.hid (Nat.pow_succ ..)
    by_cases hlt : a + k < s.size
    · have hu : s[a + k].toNat < 256 := s[a + k].toNat_lt
      have HI := Lib.hid hI
      clear hI hka
      rcases (show (0 < k ∧ s[a + k].toNat = 0) ∨ (k = 9 ∧ 1 < s[a + k].toNat) ∨ (k = 9 ∧ s[a + k].toNat = 1) ∨ (0 < k ∧ k < 9 ∧ 0 < s[a + k].toNat ∧ s[a + k].toNat < 128) ∨ (0 < k ∧ k < 9 ∧ 128 ≤ s[a + k].toNat) ∨ (k = 0 ∧ s[a + k].toNat < 128) ∨ (k = 0 ∧ 128 ≤ s[a + k].toNat) from by omega) with h | h | h | h | h | h | h
      · have hv := Lib.hid (take_bad HI.out hlt (.inl h))
        clear HI hN HW
        generalize 128 ^ k = W at *
        obtain ⟨h0, h1⟩ := h
        have h1' : (s[a + k].toNat : Int) ≤ 0 := by omega
        clear h1
        go_wp2
        go_ret3
        exact ⟨by rw [hv.out]; rfl, rfl⟩
      · have hv := Lib.hid (take_bad HI.out hlt (.inr h))
        clear HI hN HW
        generalize 128 ^ k = W at *
        obtain ⟨rfl, h1⟩ := h
        have hz : ((s[a + 9].toNat : Int) == 0) = false := by rw [beq_eq_false_iff_ne]; omega
        go_wp2
        go_ret3
        exact ⟨by rw [hv.out]; rfl, rfl⟩
      · have hv := Lib.hid (take_end HI.out hlt (by omega) (by omega))
        have hw := num_whole N k _ hN hk9 (by omega) hu
        clear HI HW hN
        generalize 128 ^ k = W at *
        have hm := mul_in s[a + k].toNat W (by omega)
        have hp := Lib.hid (add_in N s[a + k].toNat W hw)
        clear hw
        obtain ⟨rfl, h1⟩ := h
        have h1' : 1 ≤ s[a + 9].toNat ∧ s[a + 9].toNat ≤ 1 := by omega
        have hz : ((s[a + 9].toNat : Int) == 0) = false := by rw [beq_eq_false_iff_ne]; omega
        clear h1
        go_wp2
        go_ret3
        exact ⟨by rw [hv.out]; exact ret_take hp.out (by simp; omega) rfl, rfl⟩
      · have hv := Lib.hid (take_end HI.out hlt (by omega) (by omega))
        have hw := num_whole N k _ hN hk9 (by omega) hu
        clear HI HW hN
        generalize 128 ^ k = W at *
        have hm := mul_in s[a + k].toNat W (by omega)
        have hp := Lib.hid (add_in N s[a + k].toNat W hw)
        clear hw
        obtain ⟨h0, h9, h1, h2⟩ := h
        have hz : ((s[a + k].toNat : Int) == 0) = false := by rw [beq_eq_false_iff_ne]; omega
        have h9' : ((a : Int) + (k : Int) == (a : Int) + 9) = false := by rw [beq_eq_false_iff_ne]; omega
        go_wp2
        go_ret3
        exact ⟨by rw [hv.out]; exact ret_take hp.out (by simp; omega) rfl, rfl⟩
      · have hv := Lib.hid (take_on HI.out hlt (by omega) (by omega))
        have hw := num_whole N k _ hN hk9 (by omega) hu
        have hW : IntKind.u64.wrap (((128 ^ k : Nat) : Int) * 128) = ((128 ^ k * 128 : Nat) : Int) := by
          have h1 : 128 ^ k ≤ 128 ^ 8 := Nat.pow_le_pow_right (by decide) (by omega)
          have h8 : (128 : Nat) ^ 8 = 72057594037927936 := by decide
          rw [IntWalk.u64_in _ ⟨by omega, by omega⟩]; omega
        clear HI hN
        rw [← HW.out] at hW
        have HP : Hid ((128 : Nat) ^ (k + 1) = 128 ^ (k + 1)) := Lib.hid rfl
        generalize hW1 : 128 ^ (k + 1) = W1 at *
        have HW1 := Lib.hid hW1
        generalize 128 ^ k = W at *
        have hm := mul_in s[a + k].toNat W (by omega)
        have hp := Lib.hid (add_in N s[a + k].toNat W hw)
        clear hw HW HP hW1
        obtain ⟨h0, h9, h1⟩ := h
        have hz : ((s[a + k].toNat : Int) == 0) = false := by rw [beq_eq_false_iff_ne]; omega
        have h9' : ((a : Int) + (k : Int) == (a : Int) + 9) = false := by rw [beq_eq_false_iff_ne]; omega
        go_wp2
        go_round
        case rel => exact ⟨k + 1, _, hv.out, by go_num, by rw [← hp.out], by rw [HW1.out]⟩
        case measure => simp [intOf]; omega
      · have hv := Lib.hid (take_end HI.out hlt (by omega) (by omega))
        have hw := num_whole N k _ hN hk9 (by omega) hu
        obtain ⟨rfl, h1⟩ := h
        have hp := Lib.hid (add_in N _ 1 hw)
        clear hw HI HW hN
        simp only [Nat.add_zero] at hlt hu h1 hp hv
        go_wp2
        go_ret3
        exact ⟨by rw [hv.out]; exact ret_take (by simpa using hp.out) (by simp) rfl, rfl⟩
      · have hv := Lib.hid (take_on HI.out hlt (by omega) (by omega))
        have hw := num_whole N k _ hN hk9 (by omega) hu
        obtain ⟨rfl, h1⟩ := h
        have hp := Lib.hid (add_in N _ 1 hw)
        clear hw HI HW hN
        simp only [Nat.add_zero] at hlt hu h1 hp hv
        go_wp2
        go_round
        case rel => exact ⟨1, _, hv.out, rfl, by simpa using hp.out, rfl⟩
        case measure => simp [intOf]; omega
    · have hv := Lib.hid (take_out hI (by omega))
      clear hI HW hN
      generalize 128 ^ k = W at *
      go_wp2
      go_ret3
      exact ⟨by rw [hv.out]; rfl, rfl⟩

theorem rtake_not (s : ByteArray) (a : Int) (w : World) (hs : s.size ≤ 140737488351232) (ha : a < 0 ∨ (s.size : Int) < a) :
    Calls Tryd.prog 25 #[.string s, .int .i64 a] w fun e w' => e = .returned (takeV 0 (0, 0, 1)) ∧ w = w' := by
  rcases ha with h | h
  all_goals
    go_enter Tryd.func25, Tryd.ntmps25
    go_wp2
    go_ret3
    exact ⟨rfl, rfl⟩
end Go.Proofs.YtlpnhpnigljlnaaDoor
