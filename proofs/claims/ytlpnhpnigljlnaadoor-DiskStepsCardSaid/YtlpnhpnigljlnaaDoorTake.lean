/-
  The walk of TakeNum.
-/
import Derived.Test.YtlpnhpnigljlnaaDoorRows
import Derived.Test.YtlpnhpnigljlnaaDoorMath
import Derived.WalkKit
import Derived.Lib.Hide
namespace Go.Proofs.YtlpnhpnigljlnaaDoor
open Go.RowKit Go.Proofs.YtlpnhpnigljlnaaDoor.Pure

/-- What is answered, of what is taken from a on. -/
def takeV (a : Nat) (r : Nat × Nat × Nat) : Value := .tuple #[.int .u64 (r.1 : Int), .int .i64 ((if r.2.2 = 0 then a + r.2.1 else 0 : Nat) : Int), .int .i64 (r.2.2 : Int)]

theorem ret_take {n n' p p' k k' : Int} (h1 : n = n') (h2 : p = p') (h3 : k = k') : Ending.returned (.tuple #[.int .u64 n, .int .i64 p, .int .i64 k]) = .returned (.tuple #[.int .u64 n', .int .i64 p', .int .i64 k']) := by rw [h1, h2, h3]

set_option maxRecDepth 100000 in
set_option maxHeartbeats 1000000 in
theorem take_in (s : ByteArray) (a : Nat) (w : World) (hs : s.size ≤ maxLen) (ha : a ≤ s.size) :
    Calls Tryd.prog 23 #[.string s, .int .i64 a] w fun e w' => e = .returned (takeV a (takeL (s.data.toList.drop a) 0 0)) ∧ w = w' := by
  unfold maxLen at hs
  have d1 : decide ((a : Int) < 0) = false := by simp
  have d2 : decide (s.size < a) = false := by simp; omega
  go_enter Tryd.func23, Tryd.ntmps23
  go_wp2
  go_loop [7, 8] (fun n i => ∃ k N : Nat, TakeInv s a k N ∧ i = .int .i64 k ∧ n = .int .u64 N) (fun _ i => s.size - (a + (intOf i).toNat))
  case atStart => exact ⟨0, 0, take_zero s a ha, rfl, rfl⟩
  case round =>
    obtain ⟨k, N, hI, rfl, rfl⟩ := hrel
    have hk9 : k ≤ 9 := hI.2.2.1
    have hka : a + k ≤ s.size := hI.2.2.2
    by_cases hlt : a + k < s.size
    · have hu : s[a + k].toNat < 256 := s[a + k].toNat_lt
      have hmask := mask_octet s[a + k]
      have HI := Lib.hid hI
      clear hI hka
      rcases (show (0 < k ∧ s[a + k].toNat = 0) ∨ (k = 9 ∧ 1 < s[a + k].toNat) ∨ (k = 9 ∧ s[a + k].toNat = 1) ∨ (0 < k ∧ k < 9 ∧ 0 < s[a + k].toNat ∧ s[a + k].toNat < 128) ∨ (0 < k ∧ k < 9 ∧ 128 ≤ s[a + k].toNat) ∨ (k = 0 ∧ s[a + k].toNat < 128) ∨ (k = 0 ∧ 128 ≤ s[a + k].toNat) from by omega) with h | h | h | h | h | h | h
      · have hv := Lib.hid (take_bad HI.out hlt (.inl h))
        clear HI
        obtain ⟨h0, h1⟩ := h
        have h1' : (s[a + k].toNat : Int) ≤ 0 := by omega
        clear h1 hmask
        go_wp2
        go_ret3
        exact ⟨by rw [hv.out]; rfl, rfl⟩
      · have hv := Lib.hid (take_bad HI.out hlt (.inr h))
        clear HI
        obtain ⟨rfl, h1⟩ := h
        clear hmask
        go_wp2
        go_ret3
        exact ⟨by rw [hv.out]; rfl, rfl⟩
      · have hv := Lib.hid (take_end HI.out hlt (by omega) (by omega))
        obtain ⟨rfl, h1⟩ := h
        have hn := Lib.hid (or_shl9 N _ HI.out.2.1 (Nat.le_of_eq h1))
        clear HI
        have h1' : 1 ≤ s[a + 9].toNat ∧ s[a + 9].toNat ≤ 1 := by omega
        have hz : ((s[a + 9].toNat : Int) == 0) = false := by rw [beq_eq_false_iff_ne]; omega
        clear h1
        go_wp2
        go_ret3
        exact ⟨by rw [hv.out]; exact ret_take hn.out (by simp; omega) rfl, rfl⟩
      · have hv := Lib.hid (take_end HI.out hlt (by omega) (by omega))
        have hn := Lib.hid (or_shl' N k _ HI.out.2.1 (by omega) (by omega) hu)
        clear HI
        obtain ⟨h0, h9, h1, h2⟩ := h
        have hz : ((s[a + k].toNat : Int) == 0) = false := by rw [beq_eq_false_iff_ne]; omega
        have h9' : ((k : Int) == 9) = false := by rw [beq_eq_false_iff_ne]; omega
        go_wp2
        go_ret3
        exact ⟨by rw [hv.out]; exact ret_take hn.out (by simp; omega) rfl, rfl⟩
      · have hv := Lib.hid (take_on HI.out hlt (by omega) (by omega))
        have hn := Lib.hid (or_shl' N k _ HI.out.2.1 (by omega) (by omega) hu)
        clear HI
        obtain ⟨h0, h9, h1⟩ := h
        have hz : ((s[a + k].toNat : Int) == 0) = false := by rw [beq_eq_false_iff_ne]; omega
        have h9' : ((k : Int) == 9) = false := by rw [beq_eq_false_iff_ne]; omega
        go_wp2
        go_round
        case rel => exact ⟨k + 1, _, hv.out, by go_num, by rw [← hn.out]⟩
        case measure => simp [intOf]; omega
      · have hv := Lib.hid (take_end HI.out hlt (by omega) (by omega))
        obtain ⟨rfl, h1⟩ := h
        have hn := Lib.hid (or_shl0 N _ HI.out.2.1 hu)
        clear HI
        simp only [Nat.add_zero] at hlt hu h1 hmask hn hv
        go_wp2
        go_ret3
        exact ⟨by rw [hv.out]; exact ret_take hn.out (by simp) rfl, rfl⟩
      · have hv := Lib.hid (take_on HI.out hlt (by omega) (by omega))
        obtain ⟨rfl, h1⟩ := h
        have hn := Lib.hid (or_shl0 N _ HI.out.2.1 hu)
        clear HI
        simp only [Nat.add_zero] at hlt hu h1 hmask hn hv
        go_wp2
        go_round
        case rel => exact ⟨1, _, hv.out, rfl, by rw [← hn.out]⟩
        case measure => simp [intOf]; omega
    · have hv := Lib.hid (take_out hI (by omega))
      clear hI
      go_wp2
      go_ret3
      exact ⟨by rw [hv.out]; rfl, rfl⟩

theorem take_not (s : ByteArray) (a : Int) (w : World) (hs : s.size ≤ maxLen) (ha : a < 0 ∨ (s.size : Int) < a) :
    Calls Tryd.prog 23 #[.string s, .int .i64 a] w fun e w' => e = .returned (takeV 0 (0, 0, 1)) ∧ w = w' := by
  unfold maxLen at hs
  rcases ha with h | h
  all_goals
    go_enter Tryd.func23, Tryd.ntmps23
    go_wp2
    go_ret3
    exact ⟨rfl, rfl⟩
end Go.Proofs.YtlpnhpnigljlnaaDoor
