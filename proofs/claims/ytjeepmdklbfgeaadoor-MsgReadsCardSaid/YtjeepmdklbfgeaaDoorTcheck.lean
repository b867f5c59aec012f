/-
  The walks of checkCount, Check and checkBoth, of the closures, of places, nodes, Up, Others, Behind and Lowest.
-/
import Derived.Test.YtjeepmdklbfgeaaDoorBase
namespace Go.Proofs.YtjeepmdklbfgeaaDoor
open Go.Sort Go.RowKit Go.Proofs.YtjeepmdklbfgeaaDoor.Pure

set_option maxRecDepth 100000 in
set_option maxHeartbeats 1000000 in
theorem count_any (n : Int) (w : World) : Calls Tryd.prog 107 #[.int .i64 n] w fun e w' => e = .returned (.int .i64 (okE (decide (1 ≤ n ∧ n ≤ 64)))) ∧ w = w' := by
  have ho : okE true = 0 := rfl
  have hz : okE false = 1 := rfl
  by_cases h0 : n < 1
  · have e0 : decide (n < 1) = true := by simpa using h0
    have e : decide (1 ≤ n ∧ n ≤ 64) = false := by simp; omega
    rw [e, hz]
    clear e h0
    go_enter Tryd.func107, Tryd.ntmps107
    go_wp2
    go_ret
    exact ⟨rfl, rfl⟩
  · have e0 : decide (n < 1) = false := by simpa using h0
    by_cases h1 : 64 < n
    · have e1 : decide (64 < n) = true := by simpa using h1
      have e : decide (1 ≤ n ∧ n ≤ 64) = false := by simp; omega
      rw [e, hz]
      clear e h0 h1
      go_enter Tryd.func107, Tryd.ntmps107
      go_wp2
      go_ret
      exact ⟨rfl, rfl⟩
    · have e1 : decide (64 < n) = false := by simpa using h1
      have e : decide (1 ≤ n ∧ n ≤ 64) = true := by simp; omega
      rw [e, ho]
      clear e h0 h1
      go_enter Tryd.func107, Tryd.ntmps107
      go_wp2
      go_ret
      exact ⟨rfl, rfl⟩

set_option maxRecDepth 100000 in
set_option maxHeartbeats 1000000 in
theorem tcheck_any (A : Option Addr) (c : Nat) (l : List Kn) (w : World) (hn : l.length ≤ 1000) (h : Lst w A l) (L : Bool) (hL : mayT l = L) :
    Calls Tryd.prog 78 #[.slice A l.length c] w fun e w' => e = .returned (.int .i64 (okE L)) ∧ Below w.heap.size w w' := by
  have HC := Lib.hid (count_any (l.length : Int) w)
  have ho : okE true = 0 := rfl
  have hz : okE false = 1 := rfl
  by_cases hc : 1 ≤ l.length ∧ l.length ≤ 64
  · have e : decide ((1 : Int) ≤ (l.length : Int) ∧ (l.length : Int) ≤ 64) = true := by simp; omega
    have HK := Lib.hid (check_any A c l w hn h L (by rw [← hL]; simp [mayT, hc.1, hc.2]))
    rw [e, ho] at HC
    clear e hc h hL
    generalize l.length = n at *
    go_enter Tryd.func78, Tryd.ntmps78
    go_wp2_with fail
    refine HC.out.mono ?_
    rintro e w' ⟨rfl, rfl⟩
    go_wp2_with fail
    refine HK.out.mono ?_
    rintro e w1 ⟨rfl, hb⟩
    have HB := Lib.hid hb
    clear hb
    go_wp2_with fail
    go_ret
    exact ⟨rfl, HB.out⟩
  · have e : decide ((1 : Int) ≤ (l.length : Int) ∧ (l.length : Int) ≤ 64) = false := by simp; omega
    have hLf : L = false := by rw [← hL]; exact Bool.eq_false_iff.2 fun h => hc ⟨((mayT_iff l).1 h).1, ((mayT_iff l).1 h).2.1⟩
    subst hLf
    rw [e, hz] at HC
    rw [hz]
    clear e hc h hL
    generalize l.length = n at *
    go_enter Tryd.func78, Tryd.ntmps78
    go_wp2_with fail
    refine HC.out.mono ?_
    rintro e w' ⟨rfl, rfl⟩
    go_wp2_with fail
    go_ret
    exact ⟨rfl, Below.refl _ _⟩

end Go.Proofs.YtjeepmdklbfgeaaDoor
