/-
  The place of each timer among all: plain mathematics, no memory.
-/
import Derived.Test.YtbhpinmdpngbkaaHeapMath
namespace Go.Proofs.Ytbhpinmdpngbkaa.Pure

/-- Does the timer at k come ahead of the one at i, or is it the same, and stands ahead of it? -/
def aheadAt (xs : List Tm) (k i : Nat) : Bool := lt (nth xs k) (nth xs i) || (decide (nth xs k = nth xs i) && decide (k < i))
/-- How many of the first j come ahead of the one at i. -/
def cnt (xs : List Tm) (i : Nat) : Nat → Nat
  | 0 => 0
  | j + 1 => cnt xs i j + if aheadAt xs j i then 1 else 0
/-- How many come ahead of the one at i. -/
def rank (xs : List Tm) (i : Nat) : Nat := cnt xs i xs.length

theorem cnt_le (xs : List Tm) (i j : Nat) : cnt xs i j ≤ j := by
  induction j with
  | zero => exact Nat.le_refl _
  | succ j ih => rw [cnt]; split <;> omega
def less (x : Tm) (l : List Tm) : Nat := l.countP fun y => lt y x
def same (x : Tm) (l : List Tm) : Nat := l.countP fun y => decide (y = x)
theorem nth_get (xs : List Tm) (j : Nat) (h : j < xs.length) : nth xs j = xs[j] := by simp [nth, List.getD, h]
theorem cnt_eq (xs : List Tm) (i j : Nat) (hj : j ≤ xs.length) : cnt xs i j = less (nth xs i) (xs.take j) + same (nth xs i) (xs.take (min i j)) := by
  induction j with
  | zero => simp [cnt, less, same]
  | succ j ih =>
    have hj' : j < xs.length := by omega
    rw [cnt, ih (by omega), List.take_succ_eq_append_getElem hj', ← nth_get xs j hj']
    unfold less same
    rw [List.countP_append, List.countP_singleton]
    by_cases hji : j < i
    · rw [Nat.min_eq_right (by omega), Nat.min_eq_right (by omega), List.take_succ_eq_append_getElem hj', ← nth_get xs j hj', List.countP_append, List.countP_singleton]
      unfold aheadAt
      rcases h1 : lt (nth xs j) (nth xs i) with _ | _
      · by_cases h2 : nth xs j = nth xs i <;> simp [h2, hji] <;> omega
      · have h2 : ¬ nth xs j = nth xs i := fun e => by rw [e, lt_irrefl] at h1; cases h1
        simp [h2]
        omega
    · rw [Nat.min_eq_left (by omega), Nat.min_eq_left (by omega)]
      unfold aheadAt
      rcases h1 : lt (nth xs j) (nth xs i) with _ | _ <;> simp [hji] <;> omega
theorem rank_eq (xs : List Tm) (i : Nat) (hi : i < xs.length) : rank xs i = less (nth xs i) xs + same (nth xs i) (xs.take i) := by
  rw [rank, cnt_eq xs i _ (Nat.le_refl _), List.take_length, Nat.min_eq_left (by omega)]
theorem same_lt (xs : List Tm) (i : Nat) (hi : i < xs.length) : same (nth xs i) (xs.take i) < same (nth xs i) xs := by
  have h1 : same (nth xs i) (xs.take (i + 1)) = same (nth xs i) (xs.take i) + 1 := by
    unfold same
    rw [List.take_succ_eq_append_getElem hi, ← nth_get xs i hi, List.countP_append, List.countP_singleton]
    simp
  have h2 : same (nth xs i) (xs.take (i + 1)) ≤ same (nth xs i) xs := (List.take_sublist _ _).countP_le
  omega
theorem less_same_le (x : Tm) (l : List Tm) : less x l + same x l ≤ l.length := by
  induction l with
  | nil => simp [less, same]
  | cons y r ih =>
    unfold less same at *
    rw [List.countP_cons, List.countP_cons, List.length_cons]
    rcases h1 : lt y x with _ | _
    · by_cases h2 : y = x <;> simp [h2] <;> omega
    · have h2 : ¬ y = x := fun e => by rw [e, lt_irrefl] at h1; cases h1
      simp [h2]
      omega
theorem less_zero {y : Tm} {r : List Tm} (h : ∀ z ∈ r, le y z = true) : less y r = 0 := by
  unfold less
  rw [List.countP_eq_zero]
  intro z hz
  have := h z hz
  simpa [le] using this
/-- In order: where a timer stands. -/
theorem place {s : List Tm} (hs : Sorted s) (x : Tm) : ∀ j, less x s ≤ j → j < less x s + same x s → nth s j = x := by
  induction s with
  | nil => intro j h1 h2; simp [less, same] at h2
  | cons y r ih =>
    obtain ⟨hy, hr⟩ := List.pairwise_cons.1 hs
    have ih' := ih hr
    have e1 : less x (y :: r) = less x r + if lt y x then 1 else 0 := by unfold less; rw [List.countP_cons]
    have e2 : same x (y :: r) = same x r + if y = x then 1 else 0 := by unfold same; rw [List.countP_cons]; simp
    intro j h1 h2
    rw [e1] at h1 h2
    rw [e2] at h2
    rcases hlt : lt y x with _ | _
    · rw [hlt] at h1 h2
      by_cases hyx : y = x
      · subst hyx
        have hz := less_zero hy
        rw [if_pos rfl] at h2
        rcases j with _ | j
        · rfl
        · have := ih' j (by omega) (by simp at h2; omega)
          simpa [nth] using this
      · have hxy : lt x y = true := by
          rcases h : lt x y with _ | _
          · exact absurd (eq_of_not_lt hlt h) hyx
          · rfl
        have hz : less x r = 0 := by
          unfold less
          rw [List.countP_eq_zero]
          intro z hz
          have h3 := hy z hz
          have h4 : le x z = true := le_trans (le_of_lt hxy) h3
          simpa [le] using h4
        have hz2 : same x r = 0 := by
          unfold same
          rw [List.countP_eq_zero]
          intro z hz
          have h3 := hy z hz
          simp only [decide_eq_true_eq]
          rintro rfl
          simp [le, hxy] at h3
        rw [if_neg hyx] at h2
        simp at h2
        omega
    · rw [hlt] at h1 h2
      have hyx : ¬ y = x := fun e => by rw [e, lt_irrefl] at hlt; cases hlt
      rw [if_neg hyx] at h2
      simp at h1 h2
      rcases j with _ | j
      · omega
      · have := ih' j (by omega) (by omega)
        simpa [nth] using this
theorem placed {s : List Tm} (hs : Sorted s) : ∀ j, j < s.length → less (nth s j) s ≤ j ∧ j < less (nth s j) s + same (nth s j) s := by
  induction s with
  | nil => intro j hj; simp at hj
  | cons y r ih =>
    obtain ⟨hy, hr⟩ := List.pairwise_cons.1 hs
    have e1 : ∀ x, less x (y :: r) = less x r + if lt y x then 1 else 0 := fun x => by unfold less; rw [List.countP_cons]
    have e2 : ∀ x, same x (y :: r) = same x r + if y = x then 1 else 0 := fun x => by unfold same; rw [List.countP_cons]; simp
    intro j hj
    rcases j with _ | j
    · have e : nth (y :: r) 0 = y := by simp [nth]
      rw [e, e1, e2, less_zero hy]
      simp [lt_irrefl]
    · have e : nth (y :: r) (j + 1) = nth r j := by simp [nth]
      have hj' : j < r.length := by simpa using hj
      have h := ih hr j hj'
      rw [e, e1, e2]
      have hle : le y (nth r j) = true := hy _ (nth_mem hj')
      rcases lt_or_eq hle with hlt | heq
      · have hne : ¬ y = nth r j := fun e => by rw [← e, lt_irrefl] at hlt; cases hlt
        rw [if_pos hlt, if_neg hne]
        omega
      · rw [heq] at hy ⊢
        have hz := less_zero hy
        simp [lt_irrefl]
        omega
/-- The m-th of those that are the same. -/
theorem occurs (x : Tm) : ∀ (l : List Tm) (m : Nat), m < same x l → ∃ i, i < l.length ∧ nth l i = x ∧ same x (l.take i) = m := by
  intro l
  induction l with
  | nil => intro m h; simp [same] at h
  | cons y r ih =>
    have e2 : ∀ s, same x (y :: s) = same x s + if y = x then 1 else 0 := fun s => by unfold same; rw [List.countP_cons]; simp
    intro m h
    rw [e2] at h
    by_cases hyx : y = x
    · rw [if_pos hyx] at h
      rcases m with _ | m
      · exact ⟨0, by simp, by simpa [nth] using hyx, by simp [same]⟩
      · obtain ⟨i, h1, h2, h3⟩ := ih m (by omega)
        exact ⟨i + 1, by simpa using h1, by simpa [nth] using h2, by rw [List.take_succ_cons, e2, h3, if_pos hyx]⟩
    · rw [if_neg hyx] at h
      obtain ⟨i, h1, h2, h3⟩ := ih m (by omega)
      exact ⟨i + 1, by simpa using h1, by simpa [nth] using h2, by rw [List.take_succ_cons, e2, h3, if_neg hyx]; rfl⟩

theorem rank_lt (xs : List Tm) (i : Nat) (hi : i < xs.length) : rank xs i < xs.length := by
  have h1 := rank_eq xs i hi
  have h2 := same_lt xs i hi
  have h3 := less_same_le (nth xs i) xs
  omega
theorem srt_less (x : Tm) (xs : List Tm) : less x (srt xs) = less x xs := (srt_perm xs).countP_eq _
theorem srt_same (x : Tm) (xs : List Tm) : same x (srt xs) = same x xs := (srt_perm xs).countP_eq _
theorem rank_at (xs : List Tm) (i : Nat) (hi : i < xs.length) : nth (srt xs) (rank xs i) = nth xs i := by
  have h1 := rank_eq xs i hi
  have h2 := same_lt xs i hi
  exact place (srt_sorted xs) _ _ (by rw [srt_less]; omega) (by rw [srt_less, srt_same]; omega)
theorem rank_onto (xs : List Tm) (j : Nat) (hj : j < xs.length) : ∃ i, i < xs.length ∧ rank xs i = j := by
  have h := placed (srt_sorted xs) j (by rw [srt_len]; exact hj)
  rw [srt_less, srt_same] at h
  obtain ⟨i, h1, h2, h3⟩ := occurs (nth (srt xs) j) xs (j - less (nth (srt xs) j) xs) (by omega)
  refine ⟨i, h1, ?_⟩
  rw [rank_eq xs i h1, h2, h3]
  omega
theorem nth_ext {l m : List Tm} (hl : l.length = m.length) (h : ∀ j, j < l.length → nth l j = nth m j) : l = m := by
  apply List.ext_getElem hl
  intro j h1 h2
  have := h j h1
  rwa [nth_get l j h1, nth_get m j h2] at this
/-- All are laid down, each at its place: in order. -/
theorem laid {xs os : List Tm} (hl : os.length = xs.length) (h : ∀ i, i < xs.length → nth os (rank xs i) = nth xs i) : os = srt xs := by
  refine nth_ext (by rw [hl, srt_len]) fun j hj => ?_
  obtain ⟨i, hi, rfl⟩ := rank_onto xs j (by omega)
  rw [h i hi, rank_at xs i hi]
theorem laid_step {xs os : List Tm} {i : Nat} (hl : os.length = xs.length) (hi : i < xs.length) (h : ∀ k, k < i → nth os (rank xs k) = nth xs k) :
    ∀ k, k < i + 1 → nth (os.set (rank xs i) (nth xs i)) (rank xs k) = nth xs k := fun k hk => by
  have hr := rank_lt xs i hi
  have hg : ∀ q, nth (os.set (rank xs i) (nth xs i)) q = if rank xs i = q then nth xs i else nth os q := fun q => by
    unfold nth
    by_cases e : rank xs i = q
    · subst e; rw [if_pos rfl]; simp [List.getD, hl, hr]
    · rw [if_neg e]; simp [List.getD, e]
  rw [hg]
  by_cases e : rank xs i = rank xs k
  · rw [if_pos e]
    have hkl : k < xs.length := by omega
    have h1 := rank_at xs k hkl
    have h2 := rank_at xs i hi
    rw [← h1, ← e, h2]
  · rw [if_neg e]
    exact h k (by
      rcases Nat.lt_or_ge k i with h1 | h1
      · exact h1
      · exact absurd (by rw [show k = i by omega]) e)
end Go.Proofs.Ytbhpinmdpngbkaa.Pure
