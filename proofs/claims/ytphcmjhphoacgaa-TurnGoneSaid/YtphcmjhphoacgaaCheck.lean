/-
  The walks of Check and May, and of the law's cuts.
-/
import Derived.Test.YtphcmjhphoacgaaMem
namespace Go.Proofs.Ytphcmjhphoacgaa
open Go.RowKit Go.Proofs.Ytphcmjhphoacgaa.Pure

set_option maxRecDepth 100000 in
set_option maxHeartbeats 400000 in
theorem check_yes (s : ByteArray) (a : Nat) (w : World) (ha : a ≤ s.size) :
    Calls Try.prog 26 #[.agg #[.string s, .int .i64 a]] w fun e w' => e = .returned (.int .i64 0) ∧ Below w.heap.size w w' := by
  have d1 : decide ((a : Int) < 0) = false := by simp
  have d2 : decide (s.size < a) = false := by simp; omega
  go_enter Try.func26, Try.ntmps26
  go_wp2
  go_ret
  exact ⟨rfl, (Below.refl _ _).alloc (Nat.le_refl _) _⟩

set_option maxRecDepth 100000 in
set_option maxHeartbeats 400000 in
theorem check_no (s : ByteArray) (a : Int) (w : World) (ha : a < 0 ∨ (s.size : Int) < a) :
    Calls Try.prog 26 #[.agg #[.string s, .int .i64 a]] w fun e w' => e = .returned (.int .i64 1) ∧ Below w.heap.size w w' := by
  by_cases h : a < 0
  · have d1 : decide (a < 0) = true := by simpa using h
    clear ha
    go_enter Try.func26, Try.ntmps26
    go_wp2
    go_ret
    exact ⟨rfl, (Below.refl _ _).alloc (Nat.le_refl _) _⟩
  · have d1 : decide (a < 0) = false := by simpa using h
    have d2 : decide ((s.size : Int) < a) = true := by simp; omega
    clear ha
    go_enter Try.func26, Try.ntmps26
    go_wp2
    go_ret
    exact ⟨rfl, (Below.refl _ _).alloc (Nat.le_refl _) _⟩

set_option maxRecDepth 100000 in
set_option maxHeartbeats 400000 in
theorem may_yes (s : ByteArray) (a : Nat) (w : World) (ha : a ≤ s.size) :
    Calls Try.prog 20 #[.agg #[.string s, .int .i64 a]] w fun e w' => e = .returned (.bool true) ∧ Below w.heap.size w w' := by
  have d1 : decide ((0 : Int) ≤ (a : Int)) = true := by simp
  have d2 : decide (a ≤ s.size) = true := by simp; omega
  go_enter Try.func20, Try.ntmps20
  go_wp2
  go_ret
  exact ⟨rfl, (Below.refl _ _).alloc (Nat.le_refl _) _⟩

set_option maxRecDepth 100000 in
set_option maxHeartbeats 400000 in
theorem may_no (s : ByteArray) (a : Int) (w : World) (ha : a < 0 ∨ (s.size : Int) < a) :
    Calls Try.prog 20 #[.agg #[.string s, .int .i64 a]] w fun e w' => e = .returned (.bool false) ∧ Below w.heap.size w w' := by
  by_cases h : a < 0
  · have d1 : decide ((0 : Int) ≤ a) = false := by simp; omega
    clear ha
    go_enter Try.func20, Try.ntmps20
    go_wp2
    go_ret
    exact ⟨rfl, (Below.refl _ _).alloc (Nat.le_refl _) _⟩
  · have d1 : decide ((0 : Int) ≤ a) = true := by simp; omega
    have d2 : decide (a ≤ (s.size : Int)) = false := by simp; omega
    clear ha
    go_enter Try.func20, Try.ntmps20
    go_wp2
    go_ret
    exact ⟨rfl, (Below.refl _ _).alloc (Nat.le_refl _) _⟩

/-- What is looked at of a text. -/
def fewB (s : ByteArray) : ByteArray := if 400 < s.size then s.extract 0 400 else s
theorem fewB_size (s : ByteArray) : (fewB s).size ≤ 400 := by unfold fewB; split <;> (try rw [ByteArray.size_extract]) <;> omega

set_option maxRecDepth 100000 in
set_option maxHeartbeats 400000 in
theorem few_any (s : ByteArray) (a : Int) (w : World) (hs : s.size ≤ maxLen) :
    Calls Try.prog 10 #[.agg #[.string s, .int .i64 a]] w fun e w' => e = .returned (.agg #[.string (fewB s), .int .i64 a]) ∧ Below w.heap.size w w' := by
  unfold maxLen at hs
  unfold fewB
  by_cases h : 400 < s.size
  · rw [if_pos h]
    go_enter Try.func10, Try.ntmps10
    go_wp2
    exact bodyPost_ret (v := .agg #[.string (s.extract 0 400), .int .i64 a]) (by simp [results, Try.results10, go_sem]) rfl ⟨rfl, ((Below.refl _ _).alloc (Nat.le_refl _) _).alloc (by simp) _⟩
  · rw [if_neg h]
    go_enter Try.func10, Try.ntmps10
    go_wp2
    exact bodyPost_ret (v := .agg #[.string s, .int .i64 a]) (by simp [results, Try.results10, go_sem]) rfl ⟨rfl, ((Below.refl _ _).alloc (Nat.le_refl _) _).alloc (by simp) _⟩

end Go.Proofs.Ytphcmjhphoacgaa
