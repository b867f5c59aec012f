/-
  What GraceTells calls of the document, as a law meets it; which case it is.
-/
import Derived.Test.YtknpbbplolncpaaRraise
import Derived.Test.YtknpbbplolncpaaRripe
import Derived.Test.YtknpbbplolncpaaRefs
namespace Go.Proofs.Ytknpbbplolncpaa
open Go.Sort Go.RowKit Go.Proofs.Ytknpbbplolncpaa.Pure

section
variable (v : Value) (R : List Dt) (W : World)
theorem l_rclear (who inc : Int) (hs : SmR R) (h : Va W v R) : Calls Try.prog 22 #[v, .int .i64 who, .int .u64 inc] W (GivesF W (clearD R who inc)) := by
  obtain ⟨A, c, ys, rfl, _, _, h3, rfl⟩ := h
  refine (rclear_any A c W.heap.size ys who inc W hs.sm h3 (Nat.le_refl _)).mono ?_
  rintro e w' ⟨v, rfl, ho, hb⟩
  exact ⟨v, rfl, Va.own ho (yet_ct who inc ys), hb⟩
theorem l_rripe (r : Ru) (n : Nat) (now : Int) (t : Bool) (hs : SmR R) (hr : Rl r) (h1 : 1 ≤ n) (h2 : n ≤ 64) (hm : mayD R = true) (h : Va W v R) : Calls Try.prog 25 #[v, .agg #[.int .i64 r.mn, .int .i64 r.mo, .int .i64 r.al], .int .i64 (n : Int), .int .i64 now, .bool t] W (GivesF W (R.filter (fun x => ripeB r n now x == t))) := by
  obtain ⟨A, c, ys, rfl, _, _, h3, rfl⟩ := h
  refine (rripe_any A c W.heap.size ys r n now t W hs.sm h3 (Nat.le_refl _) hr h1 h2 hm).mono ?_
  rintro e w' ⟨v, rfl, ho, hb⟩
  exact ⟨v, rfl, Va.own ho (filter_ct (fun x => ripeB r n now x == t) ys), hb⟩
theorem l_rraise (who inc b now : Int) (hs : SmR R) (hl : R.length ≤ 400) (hm : mayD R = true) (hb : 0 ≤ b ∧ b < 64) (h : Va W v R) : Calls Try.prog 24 #[v, .int .i64 who, .int .u64 inc, .int .i64 b, .int .i64 now] W (GivesF W (raiseD R who inc b now)) := by
  obtain ⟨A, c, ys, rfl, _, _, h3, rfl⟩ := h
  refine (rraise_any A c W.heap.size ys who inc b now W (by simpa using hl) hs.sm h3 (Nat.le_refl _)).mono ?_
  rintro e w' ⟨v, zs, rfl, ho, he, hb'⟩
  exact ⟨v, rfl, Va.own ho (by rw [he, refR_raise hm hb]), hb'⟩
end
theorem filter_true (R : List Dt) (p : Dt → Bool) : R.filter (fun x => p x == true) = R.filter p := by
  congr 1; funext x; simp
theorem filter_false (R : List Dt) (p : Dt → Bool) : R.filter (fun x => p x == false) = R.filter (fun x => !p x) := by
  congr 1; funext x; simp
/-- Which grace. -/
theorem rel_grace {r : Ru} {n k : Int} {J T1 T2 T3 bad : Bool} (hJ : rulesB r = J) (h1 : decide (1 ≤ n) = T1) (h2 : decide (n ≤ 64) = T2) (h3 : decide (k < 0) = T3) (hb : (!J || (!(T1 && T2) || T3)) = bad) :
    (bad = true ∧ graceA r n k = (0, 1)) ∨ (bad = false ∧ J = true ∧ (T1 && T2) = true ∧ T3 = false ∧ ∃ N : Nat, n = (N : Int) ∧ Rl r ∧ 1 ≤ N ∧ N ≤ 64 ∧ 0 ≤ k ∧ graceA r n k = (graceN r N k, 0)) := by
  have hg : mayG r n k = !bad := by
    rw [← hb, ← hJ, ← h1, ← h2, ← h3]
    unfold mayG
    by_cases c1 : 1 ≤ n <;> by_cases c2 : n ≤ 64 <;> by_cases c3 : k < 0 <;> (try have c4 : ¬0 ≤ k := by omega) <;> (try have c4 : 0 ≤ k := by omega) <;> cases rulesB r <;> simp_all
  rcases bad with _ | _
  · right
    have hg' := hg
    simp only [mayG, Bool.not_false, Bool.and_eq_true, decide_eq_true_iff, rulesB_iff] at hg'
    obtain ⟨hr, c1, c2, c3⟩ := hg'
    obtain ⟨N, rfl⟩ := Int.eq_ofNat_of_zero_le (show 0 ≤ n by omega)
    refine ⟨rfl, by rw [← hJ, (rulesB_iff r).2 hr], by rw [← h1, ← h2]; simp; omega, by rw [← h3]; simp; omega, N, rfl, hr, by omega, by omega, c3, ?_⟩
    unfold graceA
    rw [if_pos (by rw [hg]; rfl)]
    simp
  · left
    refine ⟨rfl, ?_⟩
    unfold graceA
    rw [if_neg (by rw [hg]; decide)]
/-- Which doubts are raised. -/
theorem rel_raise {R : List Dt} {who inc b now : Int} {T1 T2 T3 T4 M bad : Bool} (hm : mayD R = true) (h1 : decide (who < 0) = T1) (h2 : decide (63 < who) = T2) (h3 : decide (b < 0) = T3) (h4 : decide (63 < b) = T4) (hM : tickB now = M) (hb : (T1 || (T2 || (T3 || (T4 || !M)))) = bad) :
    (bad = true ∧ raiseA R who inc b now = (R, 1)) ∨ (bad = false ∧ (0 ≤ b ∧ b < 64) ∧ raiseA R who inc b now = (raiseD R who inc b now, 0)) := by
  have hg : mayR R who b now = !bad := by
    unfold mayR
    rw [hm, hM, ← hb, ← h1, ← h2, ← h3, ← h4]
    unfold nodeB
    by_cases c1 : who < 0 <;> by_cases c2 : 63 < who <;> by_cases c3 : b < 0 <;> by_cases c4 : 63 < b <;> simp [c1, c2, c3, c4] <;> (try omega)
    all_goals (have d1 : (0 ≤ who) = ¬(who < 0) := by simp)
    all_goals (have d2 : (who < 64) = ¬(63 < who) := by simp; omega)
    all_goals (have d3 : (0 ≤ b) = ¬(b < 0) := by simp)
    all_goals (have d4 : (b < 64) = ¬(63 < b) := by simp; omega)
    all_goals simp [d1, d2, d3, d4, c1, c2, c3, c4]
  rcases bad with _ | _
  · right
    obtain ⟨_, _, h5, _⟩ := (mayR_iff R who b now).1 hg
    refine ⟨rfl, (nodeB_iff b).1 h5, ?_⟩
    unfold raiseA
    rw [if_pos (by rw [hg]; rfl)]
  · left
    refine ⟨rfl, ?_⟩
    unfold raiseA
    rw [if_neg (by rw [hg]; decide)]
/-- Which are ripe. -/
theorem rel_ripe {R : List Dt} {r : Ru} {n now : Int} {J T1 T2 M bad : Bool} (hm : mayD R = true) (hJ : rulesB r = J) (h1 : decide (1 ≤ n) = T1) (h2 : decide (n ≤ 64) = T2) (hM : tickB now = M) (hb : (!J || (!(T1 && T2) || !M)) = bad) :
    (bad = true ∧ ripeA R r n now = ([], [], 1)) ∨ (bad = false ∧ ∃ N : Nat, n = (N : Int) ∧ Rl r ∧ 1 ≤ N ∧ N ≤ 64 ∧ ripeA R r n now = (R.filter (ripeB r N now), R.filter (fun x => !ripeB r N now x), 0)) := by
  have hg : mayP R r n now = !bad := by
    unfold mayP mayG
    rw [hm, hM, hJ, ← hb, ← h1, ← h2]
    by_cases c1 : 1 ≤ n <;> by_cases c2 : n ≤ 64 <;> cases J <;> cases M <;> simp [c1, c2]
  rcases bad with _ | _
  · right
    have hg' := hg
    simp only [mayP, mayG, Bool.not_false, Bool.and_eq_true, decide_eq_true_iff, rulesB_iff] at hg'
    obtain ⟨⟨hr, c1, c2, _⟩, _, _⟩ := hg'
    obtain ⟨N, rfl⟩ := Int.eq_ofNat_of_zero_le (show 0 ≤ n by omega)
    refine ⟨rfl, N, rfl, hr, by omega, by omega, ?_⟩
    unfold ripeA
    rw [if_pos (by rw [hg]; rfl)]
    simp
  · left
    refine ⟨rfl, ?_⟩
    unfold ripeA
    rw [if_neg (by rw [hg]; decide)]
end Go.Proofs.Ytknpbbplolncpaa
