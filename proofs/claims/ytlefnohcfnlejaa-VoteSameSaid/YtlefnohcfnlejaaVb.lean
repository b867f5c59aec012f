/-
  Who may be, what may stand, when: the program's small functions, and what stands in a grant's way.
-/
import Derived.Test.YtlefnohcfnlejaaVg
namespace Go.Proofs.Ytlefnohcfnlejaa
open Go.Sort Go.RowKit Go.Proofs.Ytlefnohcfnlejaa.Pure

def momB (n : Int) : Bool := decide (0 ≤ n) && decide (n ≤ 1099511627776)
def toB (n : Int) : Bool := decide (n = -1) || nodeV n
def staB (n : Int) : Bool := decide (0 ≤ n) && decide (n ≤ 2199023255552)
theorem mayV_parts (v : Vt) : mayV v = (toB v.t && staB v.u && staB v.w) := by
  unfold mayV toB staB
  cases decide (v.t = -1) || nodeV v.t <;> cases decide (0 ≤ v.u) <;> cases decide (v.u ≤ 2199023255552) <;> cases decide (0 ≤ v.w) <;> rfl
set_option maxRecDepth 100000 in
set_option maxHeartbeats 1000000 in
theorem isNode_any (n : Int) (w : World) : Calls Try.prog 22 #[.int .i64 n] w fun e w' => e = .returned (.bool (nodeV n)) ∧ w = w' := by
  have hm : nodeV n = (decide (0 ≤ n) && decide (n < 64)) := by
    unfold nodeV
    congr 1
    try exact decide_eq_decide.2 ⟨fun h => by omega, fun h => by omega⟩
  rw [hm]
  clear hm
  go_enter Try.func22, Try.ntmps22
  by_cases h0 : 0 ≤ n
  · have e0 : decide (0 ≤ n) = true := by simpa using h0
    go_wp2
    go_ret
    exact ⟨by simp [h0], rfl⟩
  · have e0 : decide (0 ≤ n) = false := by simpa using h0
    go_wp2
    go_ret
    exact ⟨by simp, rfl⟩
set_option maxRecDepth 100000 in
set_option maxHeartbeats 1000000 in
theorem isTick_any (n : Int) (w : World) : Calls Try.prog 23 #[.int .i64 n] w fun e w' => e = .returned (.bool (momB n)) ∧ w = w' := by
  have hm : momB n = (decide (0 ≤ n) && decide (n ≤ 1099511627776)) := by
    unfold momB
    congr 1
    try exact decide_eq_decide.2 ⟨fun h => by omega, fun h => by omega⟩
  rw [hm]
  clear hm
  go_enter Try.func23, Try.ntmps23
  by_cases h0 : 0 ≤ n
  · have e0 : decide (0 ≤ n) = true := by simpa using h0
    go_wp2
    go_ret
    exact ⟨by simp [h0], rfl⟩
  · have e0 : decide (0 ≤ n) = false := by simpa using h0
    go_wp2
    go_ret
    exact ⟨by simp, rfl⟩
set_option maxRecDepth 100000 in
set_option maxHeartbeats 1000000 in
theorem mayStand_any (n : Int) (w : World) : Calls Try.prog 30 #[.int .i64 n] w fun e w' => e = .returned (.bool (staB n)) ∧ w = w' := by
  have hm : staB n = (decide (0 ≤ n) && decide (n ≤ 2199023255552)) := by
    unfold staB
    congr 1
    try exact decide_eq_decide.2 ⟨fun h => by omega, fun h => by omega⟩
  rw [hm]
  clear hm
  go_enter Try.func30, Try.ntmps30
  by_cases h0 : 0 ≤ n
  · have e0 : decide (0 ≤ n) = true := by simpa using h0
    go_wp2
    go_ret
    exact ⟨by simp [h0], rfl⟩
  · have e0 : decide (0 ≤ n) = false := by simpa using h0
    go_wp2
    go_ret
    exact ⟨by simp, rfl⟩
set_option maxRecDepth 100000 in
set_option maxHeartbeats 1000000 in
theorem mayPromise_any (n : Int) (w : World) : Calls Try.prog 29 #[.int .i64 n] w fun e w' => e = .returned (.bool (toB n)) ∧ w = w' := by
  have C := Lib.hid (fun W => isNode_any n W)
  unfold toB
  generalize nodeV n = q at *
  go_enter Try.func29, Try.ntmps29
  by_cases h0 : n = -1
  · have e0 : decide (n = -1) = true := decide_eq_true h0
    subst h0
    go_wp2_with fail
    go_ret
    exact ⟨by simp, rfl⟩
  · have e0 : decide (n = -1) = false := decide_eq_false h0
    go_wp2_with fail
    refine (C.out _).mono ?_
    rintro e w2 ⟨rfl, rfl⟩
    go_wp2_with fail
    go_ret
    exact ⟨by simp [h0], rfl⟩
end Go.Proofs.Ytlefnohcfnlejaa
