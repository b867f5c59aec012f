/-
  The clock's guard as one answer.
-/
import Derived.Test.YtlefnohcfnlejaaVf
namespace Go.Proofs.Ytlefnohcfnlejaa
open Go.Sort Go.RowKit Go.Proofs.Ytlefnohcfnlejaa.Pure

/-- Terms of which the clock's guard is one. -/
def gdB (x : Tm) : Bool := decide (0 ≤ x.t) && decide (x.t ≤ 1099511627776) && bound x.d x.r
noncomputable def gdR (x : Tm) : Int := if gdB x = true then gdF x.t x.d x.r else 0
def gdE (x : Tm) : Int := if gdB x = true then 0 else 1
theorem guard_any (x : Tm) (w : World) : Calls Try.prog 14 #[.int .i64 x.t, .int .i64 x.d, .int .i64 x.r] w fun e w' => e = .returned (.tuple #[.int .i64 (gdR x), .int .i64 (gdE x)]) ∧ Below w.heap.size w w' := by
  unfold gdR gdE
  cases h : gdB x with
  | true =>
    rw [if_pos rfl, if_pos rfl]
    unfold gdB at h
    simp only [Bool.and_eq_true, decide_eq_true_eq] at h
    refine (guard_yes x.t x.d x.r w h.1 h.2).mono ?_
    rintro e w' ⟨g, rfl, hg, hb⟩
    exact ⟨by rw [gdF_of (bound_r h.2).2.1 hg], hb⟩
  | false =>
    rw [if_neg (by decide), if_neg (by decide)]
    refine guard_bad x.t x.d x.r w ?_
    unfold gdB at h
    rw [Bool.and_eq_false_iff, Bool.and_eq_false_iff, decide_eq_false_iff_not, decide_eq_false_iff_not] at h
    rcases h with (h | h) | h
    · exact .inl (by omega)
    · exact .inr (.inl (by omega))
    · exact .inr (.inr h)
/-- There is a guard. -/
theorem gdF_is {x : Tm} (h : gdB x = true) : Guards (gdF x.t x.d x.r) x.t x.d x.r := by
  unfold gdB at h
  simp only [Bool.and_eq_true, decide_eq_true_eq] at h
  have hr := bound_r h.2
  have hx : ∃ g, Guards g x.t x.d x.r := by
    have key : ∀ n : Nat, (n : Int) ≤ x.t → (∃ g, Guards g x.t x.d x.r) ∨ (n : Int) - 1 + x.d + ((n : Int) - 1) / x.r < x.t := by
      intro n
      induction n with
      | zero =>
        intro _
        by_cases h0 : 0 + x.d + 0 / x.r < x.t
        · refine .inr ?_
          have : ((0 : Nat) : Int) - 1 + x.d + (((0 : Nat) : Int) - 1) / x.r ≤ 0 + x.d + 0 / x.r := by
            have := reach_mono (d := x.d) hr.2.1 (show (((0 : Nat) : Int) - 1) ≤ 0 by omega)
            omega
          omega
        · exact .inl ⟨0, Int.le_refl 0, h.1.1, .inl rfl, h0⟩
      | succ n ih =>
        intro hn
        rcases ih (by omega) with h1 | h1
        · exact .inl h1
        · by_cases h2 : (n : Int) + x.d + (n : Int) / x.r < x.t
          · refine .inr ?_
            have e : (((n + 1 : Nat)) : Int) - 1 = (n : Int) := by omega
            rw [e]
            exact h2
          · exact .inl ⟨n, by omega, by omega, .inr h1, h2⟩
    obtain ⟨m, hm⟩ := Int.eq_ofNat_of_zero_le h.1.1
    rcases key m (by omega) with h1 | h1
    · exact h1
    · refine ⟨m, by omega, by omega, .inr h1, ?_⟩
      have := Int.ediv_nonneg (show 0 ≤ (m : Int) by omega) (show 0 ≤ x.r by omega)
      omega
  unfold gdF
  rw [dif_pos hx]
  exact hx.choose_spec
theorem tm_gd {x : Tm} (h : tmB x = true) : gdB x = true := by
  obtain ⟨h1, h2, h3⟩ := (tmB_iff x).1 h
  unfold gdB
  simp only [Bool.and_eq_true, decide_eq_true_eq]
  exact ⟨⟨by omega, by omega⟩, h3⟩
theorem holdF_nonneg (x : Tm) : 0 ≤ holdF x := by
  unfold holdF
  split
  · exact (gdF_is (tm_gd (by assumption))).1
  · exact Int.le_refl 0
theorem hold_pos {x : Tm} (h : ¬ holdF x = 0) : tmB x = true ∧ 1 ≤ holdF x ∧ holdF x ≤ x.t ∧ Guards (holdF x) x.t x.d x.r := by
  have h0 := holdF_nonneg x
  have hb : tmB x = true := by
    cases hb : tmB x with
    | true => rfl
    | false => exact absurd (holdF_no hb) h
  have hg := gdF_is (tm_gd hb)
  have e : holdF x = gdF x.t x.d x.r := by unfold holdF; rw [if_pos hb]
  rw [← e] at hg
  exact ⟨hb, by omega, hg.2.1, hg⟩
end Go.Proofs.Ytlefnohcfnlejaa
