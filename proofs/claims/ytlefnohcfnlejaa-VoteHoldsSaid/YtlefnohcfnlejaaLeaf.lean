/-
  May clocks be so; the document's Bound and Fits.
-/
import Derived.Test.YtlefnohcfnlejaaQt
import Derived.Test.YtlefnohcfnlejaaCm
namespace Go.Proofs.Ytlefnohcfnlejaa
open Go.Sort Go.RowKit Go.Proofs.Ytlefnohcfnlejaa.Pure

set_option maxRecDepth 100000 in
set_option maxHeartbeats 1000000 in
theorem reach_any (x d r : Int) (w : World) (hx : 0 ≤ x ∧ x ≤ 1099511627777) (hd : 0 ≤ d ∧ d ≤ 1099511627776) (hr : 1 ≤ r ∧ r ≤ 1099511627776) :
    Calls Try.prog 27 #[.int .i64 x, .int .i64 d, .int .i64 r] w fun e w' => e = .returned (.int .i64 (x + d + x / r)) ∧ Below w.heap.size w w' := by
  have e0 : (r == 0) = false := by simp; omega
  have e1 : Int.tdiv x r = x / r := Int.tdiv_eq_ediv_of_nonneg hx.1
  have e2 : x / r ≤ x := Int.ediv_le_self _ hx.1
  have e3 : 0 ≤ x / r := Int.ediv_nonneg hx.1 (by omega)
  generalize x / r = q at *
  go_enter Try.func27, Try.ntmps27
  go_wp2
  go_ret
  exact ⟨rfl, Below.refl _ _⟩
/-- May clocks be asked for by d and r? -/
def bound (d r : Int) : Bool := decide (0 ≤ d ∧ d ≤ 1099511627776 ∧ 1 ≤ r ∧ r ≤ 1099511627776)
set_option maxRecDepth 100000 in
set_option maxHeartbeats 1000000 in
theorem differ_any (d r : Int) (w : World) :
    Calls Try.prog 25 #[.int .i64 d, .int .i64 r] w fun e w' => e = .returned (.bool (bound d r)) ∧ w = w' := by
  generalize hb : bound d r = b
  unfold bound at hb
  go_enter Try.func25, Try.ntmps25
  by_cases h0 : 0 ≤ d
  · by_cases h1 : d ≤ 1099511627776
    · by_cases h2 : 1 ≤ r
      · by_cases h3 : r ≤ 1099511627776
        · have hb' : b = true := by rw [← hb]; simp; omega
          subst hb'
          clear hb
          go_wp2
          go_ret
          exact ⟨rfl, rfl⟩
        · have hb' : b = false := by rw [← hb]; simp; omega
          subst hb'
          clear hb
          have e3 : decide (r ≤ 1099511627776) = false := by simpa using h3
          go_wp2
          go_ret
          exact ⟨rfl, rfl⟩
      · have hb' : b = false := by rw [← hb]; simp; omega
        subst hb'
        clear hb
        have e2 : decide (1 ≤ r) = false := by simpa using h2
        go_wp2
        go_ret
        exact ⟨rfl, rfl⟩
    · have hb' : b = false := by rw [← hb]; simp; omega
      subst hb'
      clear hb
      have e1 : decide (d ≤ 1099511627776) = false := by simpa using h1
      go_wp2
      go_ret
      exact ⟨rfl, rfl⟩
  · have hb' : b = false := by rw [← hb]; simp; omega
    subst hb'
    clear hb
    have e1 : decide (0 ≤ d) = false := by simpa using h0
    go_wp2
    go_ret
    exact ⟨rfl, rfl⟩
set_option maxRecDepth 100000 in
set_option maxHeartbeats 1000000 in
theorem bound_any (d r : Int) (w : World) :
    Calls Try.prog 15 #[.int .i64 d, .int .i64 r] w fun e w' => e = .returned (.bool (bound d r)) ∧ w = w' := by
  generalize hb : bound d r = b
  unfold bound at hb
  go_enter Try.func15, Try.ntmps15
  by_cases h0 : 0 ≤ d
  · by_cases h1 : d ≤ 1099511627776
    · by_cases h2 : 1 ≤ r
      · by_cases h3 : r ≤ 1099511627776
        · have hb' : b = true := by rw [← hb]; simp; omega
          subst hb'
          clear hb
          go_wp2
          go_ret
          exact ⟨rfl, rfl⟩
        · have hb' : b = false := by rw [← hb]; simp; omega
          subst hb'
          clear hb
          have e3 : decide (r ≤ 1099511627776) = false := by simpa using h3
          go_wp2
          go_ret
          exact ⟨rfl, rfl⟩
      · have hb' : b = false := by rw [← hb]; simp; omega
        subst hb'
        clear hb
        have e2 : decide (1 ≤ r) = false := by simpa using h2
        go_wp2
        go_ret
        exact ⟨rfl, rfl⟩
    · have hb' : b = false := by rw [← hb]; simp; omega
      subst hb'
      clear hb
      have e1 : decide (d ≤ 1099511627776) = false := by simpa using h1
      go_wp2
      go_ret
      exact ⟨rfl, rfl⟩
  · have hb' : b = false := by rw [← hb]; simp; omega
    subst hb'
    clear hb
    have e1 : decide (0 ≤ d) = false := by simpa using h0
    go_wp2
    go_ret
    exact ⟨rfl, rfl⟩
set_option maxRecDepth 100000 in
set_option maxHeartbeats 1000000 in
theorem fits_any (g t d r : Int) (w : World) (hg : 0 ≤ g ∧ g ≤ 1099511627777) (hd : 0 ≤ d ∧ d ≤ 1099511627776) (hr : 1 ≤ r ∧ r ≤ 1099511627776) (B : Bool) (hB : B = true ↔ (g = 0 ∨ g - 1 + d + (g - 1) / r < t)) :
    Calls Try.prog 16 #[.int .i64 g, .int .i64 t, .int .i64 d, .int .i64 r] w fun e w' => e = .returned (.bool B) ∧ w = w' := by
  have HB := Lib.hid hB
  clear hB
  go_enter Try.func16, Try.ntmps16
  by_cases h0 : g = 0
  · subst h0
    have hb : B = true := HB.out.2 (.inl rfl)
    subst hb
    go_wp2
    go_ret
    exact ⟨rfl, rfl⟩
  · have e0 : (g == 0) = false := by simpa using h0
    have e1 : Int.tdiv (g - 1) r = (g - 1) / r := Int.tdiv_eq_ediv_of_nonneg (by omega)
    have e2 : (g - 1) / r ≤ g - 1 := Int.ediv_le_self _ (by omega)
    have e3 : 0 ≤ (g - 1) / r := Int.ediv_nonneg (by omega) (by omega)
    have e4 : (r == 0) = false := by simp; omega
    have HB' : Hid (B = decide (g - 1 + d + (g - 1) / r < t)) := Lib.hid (by
      rw [Bool.eq_iff_iff, HB.out, decide_eq_true_eq]
      exact ⟨fun h => h.resolve_left h0, .inr⟩)
    generalize (g - 1) / r = q at *
    go_wp2
    go_ret
    exact ⟨by rw [HB'.out]; rfl, rfl⟩
end Go.Proofs.Ytlefnohcfnlejaa
