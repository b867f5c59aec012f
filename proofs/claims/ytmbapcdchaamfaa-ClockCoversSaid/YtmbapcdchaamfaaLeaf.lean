/-
  The walks of what calls little: may, with, since, reach, mayDiffer, Bound, Fits, Up.
-/
import Derived.Test.YtmbapcdchaamfaaMem
namespace Go.Proofs.Ytmbapcdchaamfaa
open Go.Sort Go.RowKit Go.Proofs.Ytmbapcdchaamfaa.Pure

set_option maxRecDepth 100000 in
set_option maxHeartbeats 1000000 in
theorem may_any (t f : Int) (d : Bool) (k : Int) (w : World) :
    Calls Try.prog 25 #[.agg #[.int .i64 t, .int .i64 f, .bool d], .int .i64 k] w fun e w' => e = .returned (.bool (mayAt ⟨t, f, d⟩ k)) ∧ Below w.heap.size w w' := by
  have hm : mayAt ⟨t, f, d⟩ k = if k = 0 ∨ k = 1 then !d else if k = 2 then d else false := rfl
  rw [hm]
  clear hm
  go_enter Try.func25, Try.ntmps25
  by_cases h0 : k = 0
  · subst h0
    go_wp2
    go_ret
    exact ⟨by simp, (Below.refl _ _).alloc (Nat.le_refl _) _⟩
  · have e0 : (k == 0) = false := by simpa using h0
    by_cases h1 : k = 1
    · subst h1
      go_wp2
      go_ret
      exact ⟨by simp, (Below.refl _ _).alloc (Nat.le_refl _) _⟩
    · have e1 : (k == 1) = false := by simpa using h1
      by_cases h2 : k = 2
      · subst h2
        go_wp2
        go_ret
        exact ⟨by simp, (Below.refl _ _).alloc (Nat.le_refl _) _⟩
      · have e2 : (k == 2) = false := by simpa using h2
        go_wp2
        go_ret
        exact ⟨by simp, (Below.refl _ _).alloc (Nat.le_refl _) _⟩

set_option maxRecDepth 100000 in
set_option maxHeartbeats 1000000 in
theorem reach_any (x d r : Int) (w : World) (hx : 0 ≤ x ∧ x ≤ 1099511627777) (hd : 0 ≤ d ∧ d ≤ 1099511627776) (hr : 1 ≤ r ∧ r ≤ 1099511627776) :
    Calls Try.prog 31 #[.int .i64 x, .int .i64 d, .int .i64 r] w fun e w' => e = .returned (.int .i64 (x + d + x / r)) ∧ Below w.heap.size w w' := by
  have e0 : (r == 0) = false := by simp; omega
  have e1 : Int.tdiv x r = x / r := Int.tdiv_eq_ediv_of_nonneg hx.1
  have e2 : x / r ≤ x := Int.ediv_le_self _ hx.1
  have e3 : 0 ≤ x / r := Int.ediv_nonneg hx.1 (by omega)
  generalize x / r = q at *
  go_enter Try.func31, Try.ntmps31
  go_wp2
  go_ret
  exact ⟨rfl, Below.refl _ _⟩

set_option maxRecDepth 100000 in
set_option maxHeartbeats 1000000 in
theorem with_any (t f : Int) (d : Bool) (k : Int) (w : World) (ht : 0 ≤ t ∧ t ≤ 1000) (hf : 0 ≤ f ∧ f ≤ 1000) :
    Calls Try.prog 26 #[.agg #[.int .i64 t, .int .i64 f, .bool d], .int .i64 k] w fun e w' => e = .returned (cv (wth ⟨t, f, d⟩ k)) ∧ Below w.heap.size w w' := by
  have hm : cv (wth ⟨t, f, d⟩ k) = .agg #[.int .i64 (if k = 0 then t + 1 else t), .int .i64 (if k = 0 then f else if k = 1 then f + 1 else f), .bool (k == 1)] := rfl
  rw [hm]
  clear hm
  go_enter Try.func26, Try.ntmps26
  by_cases h0 : k = 0
  · subst h0
    go_wp2
    exact bodyPost_ret (v := .agg #[.int .i64 (t + 1), .int .i64 f, .bool false]) (by simp [results, Try.results26, go_sem]) rfl ⟨rfl, ((Below.refl _ _).alloc (Nat.le_refl _) _).alloc (by simp) _⟩
  · have e0 : (k == 0) = false := by simpa using h0
    by_cases h1 : k = 1
    · subst h1
      go_wp2
      exact bodyPost_ret (v := .agg #[.int .i64 t, .int .i64 (f + 1), .bool true]) (by simp [results, Try.results26, go_sem]) rfl ⟨rfl, ((Below.refl _ _).alloc (Nat.le_refl _) _).alloc (by simp) _⟩
    · have e1 : (k == 1) = false := by simpa using h1
      go_wp2
      exact bodyPost_ret (v := .agg #[.int .i64 t, .int .i64 f, .bool false]) (by simp [results, Try.results26, go_sem]) rfl ⟨by simp, ((Below.refl _ _).alloc (Nat.le_refl _) _).alloc (by simp) _⟩

set_option maxRecDepth 100000 in
set_option maxHeartbeats 1000000 in
theorem since_any (t f : Int) (d : Bool) (t' f' : Int) (d' : Bool) (w : World) (ht : 0 ≤ t ∧ t ≤ 1000) (ht' : 0 ≤ t' ∧ t' ≤ 1000) (B : Bool) (hB : B = (!d' && (f' == f))) :
    Calls Try.prog 22 #[.agg #[.int .i64 t, .int .i64 f, .bool d], .agg #[.int .i64 t', .int .i64 f', .bool d']] w fun e w' => e = .returned (.tuple #[.int .i64 (if B then t - t' else 0), .bool B]) ∧ Below w.heap.size w w' := by
  have HB := Lib.hid hB
  clear hB
  go_enter Try.func22, Try.ntmps22
  rcases d' with _ | _
  · by_cases h : f' = f
    · have e : (f' == f) = true := by simpa using h
      have hb : B = true := by rw [HB.out, e]; rfl
      subst hb
      go_wp2
      go_ret2
      exact ⟨rfl, ((Below.refl _ _).alloc (Nat.le_refl _) _).alloc (by simp) _⟩
    · have e : (f' == f) = false := by simpa using h
      have hb : B = false := by rw [HB.out, e]; rfl
      subst hb
      go_wp2
      go_ret2
      exact ⟨rfl, ((Below.refl _ _).alloc (Nat.le_refl _) _).alloc (by simp) _⟩
  · have hb : B = false := by rw [HB.out]; rfl
    subst hb
    go_wp2
    go_ret2
    exact ⟨rfl, ((Below.refl _ _).alloc (Nat.le_refl _) _).alloc (by simp) _⟩

/-- May clocks be asked for by d and r? -/
def bound (d r : Int) : Bool := decide (0 ≤ d ∧ d ≤ 1099511627776 ∧ 1 ≤ r ∧ r ≤ 1099511627776)
set_option maxRecDepth 100000 in
set_option maxHeartbeats 1000000 in
theorem differ_any (d r : Int) (w : World) :
    Calls Try.prog 23 #[.int .i64 d, .int .i64 r] w fun e w' => e = .returned (.bool (bound d r)) ∧ w = w' := by
  generalize hb : bound d r = b
  unfold bound at hb
  go_enter Try.func23, Try.ntmps23
  by_cases h0 : 0 ≤ d
  · by_cases h1 : d ≤ 1099511627776
    · by_cases h2 : 1 ≤ r
      · by_cases h3 : r ≤ 1099511627776
        · have hb' : b = true := by rw [← hb]; simp; omega
          subst hb'
          clear hb
          go_wp2
          go_ret
          exact ⟨rfl, rfl⟩
        · have hb' : b = false := by rw [← hb]; simp; omega
          subst hb'
          clear hb
          have e3 : decide (r ≤ 1099511627776) = false := by simpa using h3
          go_wp2
          go_ret
          exact ⟨rfl, rfl⟩
      · have hb' : b = false := by rw [← hb]; simp; omega
        subst hb'
        clear hb
        have e2 : decide (1 ≤ r) = false := by simpa using h2
        go_wp2
        go_ret
        exact ⟨rfl, rfl⟩
    · have hb' : b = false := by rw [← hb]; simp; omega
      subst hb'
      clear hb
      have e1 : decide (d ≤ 1099511627776) = false := by simpa using h1
      go_wp2
      go_ret
      exact ⟨rfl, rfl⟩
  · have hb' : b = false := by rw [← hb]; simp; omega
    subst hb'
    clear hb
    have e1 : decide (0 ≤ d) = false := by simpa using h0
    go_wp2
    go_ret
    exact ⟨rfl, rfl⟩
set_option maxRecDepth 100000 in
set_option maxHeartbeats 1000000 in
theorem bound_any (d r : Int) (w : World) :
    Calls Try.prog 17 #[.int .i64 d, .int .i64 r] w fun e w' => e = .returned (.bool (bound d r)) ∧ w = w' := by
  generalize hb : bound d r = b
  unfold bound at hb
  go_enter Try.func17, Try.ntmps17
  by_cases h0 : 0 ≤ d
  · by_cases h1 : d ≤ 1099511627776
    · by_cases h2 : 1 ≤ r
      · by_cases h3 : r ≤ 1099511627776
        · have hb' : b = true := by rw [← hb]; simp; omega
          subst hb'
          clear hb
          go_wp2
          go_ret
          exact ⟨rfl, rfl⟩
        · have hb' : b = false := by rw [← hb]; simp; omega
          subst hb'
          clear hb
          have e3 : decide (r ≤ 1099511627776) = false := by simpa using h3
          go_wp2
          go_ret
          exact ⟨rfl, rfl⟩
      · have hb' : b = false := by rw [← hb]; simp; omega
        subst hb'
        clear hb
        have e2 : decide (1 ≤ r) = false := by simpa using h2
        go_wp2
        go_ret
        exact ⟨rfl, rfl⟩
    · have hb' : b = false := by rw [← hb]; simp; omega
      subst hb'
      clear hb
      have e1 : decide (d ≤ 1099511627776) = false := by simpa using h1
      go_wp2
      go_ret
      exact ⟨rfl, rfl⟩
  · have hb' : b = false := by rw [← hb]; simp; omega
    subst hb'
    clear hb
    have e1 : decide (0 ≤ d) = false := by simpa using h0
    go_wp2
    go_ret
    exact ⟨rfl, rfl⟩

set_option maxRecDepth 100000 in
set_option maxHeartbeats 1000000 in
theorem fits_any (g t d r : Int) (w : World) (hg : 0 ≤ g ∧ g ≤ 1099511627777) (hd : 0 ≤ d ∧ d ≤ 1099511627776) (hr : 1 ≤ r ∧ r ≤ 1099511627776) (B : Bool) (hB : B = true ↔ (g = 0 ∨ g - 1 + d + (g - 1) / r < t)) :
    Calls Try.prog 20 #[.int .i64 g, .int .i64 t, .int .i64 d, .int .i64 r] w fun e w' => e = .returned (.bool B) ∧ w = w' := by
  have HB := Lib.hid hB
  clear hB
  go_enter Try.func20, Try.ntmps20
  by_cases h0 : g = 0
  · subst h0
    have hb : B = true := HB.out.2 (.inl rfl)
    subst hb
    go_wp2
    go_ret
    exact ⟨rfl, rfl⟩
  · have e0 : (g == 0) = false := by simpa using h0
    have e1 : Int.tdiv (g - 1) r = (g - 1) / r := Int.tdiv_eq_ediv_of_nonneg (by omega)
    have e2 : (g - 1) / r ≤ g - 1 := Int.ediv_le_self _ (by omega)
    have e3 : 0 ≤ (g - 1) / r := Int.ediv_nonneg (by omega) (by omega)
    have e4 : (r == 0) = false := by simp; omega
    have HB' : Hid (B = decide (g - 1 + d + (g - 1) / r < t)) := Lib.hid (by
      rw [Bool.eq_iff_iff, HB.out, decide_eq_true_eq]
      exact ⟨fun h => h.resolve_left h0, .inr⟩)
    generalize (g - 1) / r = q at *
    go_wp2
    go_ret
    exact ⟨by rw [HB'.out]; rfl, rfl⟩
end Go.Proofs.Ytmbapcdchaamfaa
