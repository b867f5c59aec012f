/-
  The walks of Same and Many.
-/
import Derived.Test.YthcjjogomknddaaDoorShuf
import Derived.Deep.DeepCutAuto
namespace Go.Proofs.YthcjjogomknddaaDoor
open Go.RowKit Go.Proofs.YthcjjogomknddaaDoor.Pure

/-- How often a number stands in a list. -/
def many (xs : List Int) (y : Int) : Nat := xs.countP (· == y)
theorem many_snoc (xs : List Int) (y : Int) (j : Nat) (h : j < xs.length) : many (xs.take (j + 1)) y = many (xs.take j) y + if xs.getD j 0 == y then 1 else 0 := by
  have e : xs.getD j 0 = xs[j] := by simp [List.getD, h]
  rw [List.take_succ_eq_append_getElem h, many, many, List.countP_append, List.countP_singleton, e]
theorem many_le (xs : List Int) (y : Int) : many xs y ≤ xs.length := List.countP_le_length

set_option maxRecDepth 100000 in
set_option maxHeartbeats 1000000 in
theorem many_any (A : Option Addr) (c lo hi : Nat) (xs : List Int) (y : Int) (w : World) (hn : xs.length ≤ 100000) (h : Has w lo hi A xs) :
    Calls Tryd.prog 25 #[.slice A xs.length c, .int .i64 y] w fun e w' => e = .returned (.int .i64 (many xs y : Nat)) ∧ w = w' := by
  have H := Lib.hid h
  clear h
  go_enter Tryd.func25, Tryd.ntmps25
  go_wp2_with fail
  go_loop [5, 6] (fun k i => ∃ j : Nat, j ≤ xs.length ∧ i = .int .i64 j ∧ k = .int .i64 (many (xs.take j) y : Nat)) (fun _ i => xs.length - (intOf i).toNat)
  case atStart => exact ⟨0, Nat.zero_le _, rfl, rfl⟩
  case round =>
    obtain ⟨j, hj, rfl, rfl⟩ := hrel
    by_cases hlt : j < xs.length
    · have j0 : (0 : Int) ≤ (j : Int) := by omega
      have j1 : (j : Int) < (xs.length : Int) := by omega
      obtain ⟨ad, rfl, _, _, hc⟩ := H.out j hlt
      have hM : Hid (many (xs.take (j + 1)) y = many (xs.take j) y + if xs.getD j 0 == y then 1 else 0) := Lib.hid (many_snoc xs y j hlt)
      have hb : many (xs.take j) y ≤ 100000 := Nat.le_trans List.countP_le_length (by rw [List.length_take]; omega)
      generalize xs.getD j 0 = z at *
      generalize many (xs.take j) y = q at *
      rcases hz : (z == y) with _ | _
      all_goals
        rw [hz] at hM
        go_wp2_with fail
        go_round
        case rel => exact ⟨j + 1, by omega, by go_num, by rw [hM.out]; simp⟩
        case measure => simp [intOf]; omega
    · obtain rfl : j = xs.length := by omega
      go_wp2
      go_ret
      exact ⟨ret_int (by simp), rfl⟩
end Go.Proofs.YthcjjogomknddaaDoor
