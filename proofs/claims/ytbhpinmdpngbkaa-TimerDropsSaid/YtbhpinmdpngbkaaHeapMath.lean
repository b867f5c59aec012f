/-
  Heaps of timers: plain mathematics, no memory.
-/
import Derived.Test.YtbhpinmdpngbkaaMath
namespace Go.Proofs.Ytbhpinmdpngbkaa.Pure

/-- The timer at a place. -/
def nth (xs : List Tm) (i : Nat) : Tm := xs.getD i zt
theorem nth_mem {xs : List Tm} {i : Nat} (h : i < xs.length) : nth xs i ∈ xs := by
  unfold nth
  rw [List.getD_eq_getElem?_getD, List.getElem?_eq_getElem h]
  exact List.getElem_mem h
theorem nth_of_mem {xs : List Tm} {x : Tm} (h : x ∈ xs) : ∃ i, i < xs.length ∧ nth xs i = x := by
  obtain ⟨i, hi, e⟩ := List.mem_iff_getElem.1 h
  exact ⟨i, hi, by simp [nth, List.getD, hi, e]⟩
/-- Two places of a list change. -/
def swap (xs : List Tm) (i j : Nat) : List Tm := (xs.set i (nth xs j)).set j (nth xs i)
theorem swap_len (xs : List Tm) (i j : Nat) : (swap xs i j).length = xs.length := by simp [swap]
theorem swap_perm (xs : List Tm) (i j : Nat) (hi : i < xs.length) (hj : j < xs.length) : (swap xs i j).Perm xs := by
  have := List.set_set_perm hi hj
  simpa [swap, nth, List.getD, hi, hj] using this
theorem swap_get (xs : List Tm) (i j k : Nat) (hi : i < xs.length) (hj : j < xs.length) (hk : k < xs.length) :
    nth (swap xs i j) k = if k = j then nth xs i else if k = i then nth xs j else nth xs k := by
  simp only [swap, nth, List.getD, List.getElem?_set]
  by_cases h1 : j = k <;> by_cases h2 : i = k <;> simp [h1, h2, hi, hj, hk, eq_comm] <;> simp_all

/-- The first n of them are a heap. -/
def HeapN (xs : List Tm) (n : Nat) : Prop := ∀ i, 0 < i → i < n → le (nth xs ((i - 1) / 2)) (nth xs i) = true
def IsHeap (xs : List Tm) : Prop := HeapN xs xs.length

theorem heap_of_sorted {xs : List Tm} (h : Sorted xs) : IsHeap xs := fun i _ hi => h.at_ _ _ (by omega) hi
theorem HeapN.min {xs : List Tm} {n : Nat} (h : HeapN xs n) : ∀ i, i < n → le (nth xs 0) (nth xs i) = true := by
  intro i
  induction i using Nat.strongRecOn with
  | ind i ih =>
    intro hi
    rcases Nat.eq_zero_or_pos i with rfl | hp
    · exact le_refl _
    · exact le_trans (ih ((i - 1) / 2) (by omega) (by omega)) (h i hp hi)

/-- A heap but for the place j, which may be ahead of the one above it. -/
def UpInv (xs : List Tm) (j : Nat) : Prop :=
  (∀ i, 0 < i → i < xs.length → i ≠ j → le (nth xs ((i - 1) / 2)) (nth xs i) = true) ∧
  (∀ i, 0 < i → i < xs.length → (i - 1) / 2 = j → 0 < j → le (nth xs ((j - 1) / 2)) (nth xs i) = true)

theorem UpInv.start {xs : List Tm} {x : Tm} (h : IsHeap xs) : UpInv (xs ++ [x]) xs.length := by
  have e : ∀ i, i < xs.length → nth (xs ++ [x]) i = nth xs i := fun i hi => by simp [nth, List.getD, List.getElem?_append_left hi]
  refine ⟨fun i h0 hi hne => ?_, fun i h0 hi hp hj => ?_⟩
  · have hi' : i < xs.length := by simp at hi; omega
    rw [e _ hi', e _ (by omega)]
    exact h i h0 hi'
  · simp at hi
    omega
theorem UpInv.done {xs : List Tm} {j : Nat} (h : UpInv xs j) (hj : j = 0 ∨ lt (nth xs j) (nth xs ((j - 1) / 2)) = false) : IsHeap xs := fun i h0 hi => by
  by_cases e : i = j
  · subst e
    rcases hj with hj | hj
    · omega
    · simp [le, hj]
  · exact h.1 i h0 hi e
theorem UpInv.step {xs : List Tm} {j : Nat} (h : UpInv xs j) (h0 : 0 < j) (hj : j < xs.length) (hlt : lt (nth xs j) (nth xs ((j - 1) / 2)) = true) : UpInv (swap xs ((j - 1) / 2) j) ((j - 1) / 2) := by
  generalize hp : (j - 1) / 2 = p at *
  have hpj : p < j := by omega
  have g := fun k hk => swap_get xs p j k (by omega) hj hk
  refine ⟨fun i hi0 hi hne => ?_, fun i hi0 hi hpar hp0 => ?_⟩
  · rw [swap_len] at hi
    rw [g _ (by omega), g _ hi]
    by_cases e1 : i = j
    · subst e1
      rw [if_pos rfl, hp, if_neg (by omega), if_pos rfl]
      exact le_of_lt hlt
    · rw [if_neg e1, if_neg hne]
      by_cases e2 : (i - 1) / 2 = j
      · rw [if_pos e2]
        have := h.2 i hi0 hi e2 h0
        rw [hp] at this
        exact this
      · rw [if_neg e2]
        by_cases e3 : (i - 1) / 2 = p
        · rw [if_pos e3]
          have := h.1 i hi0 hi e1
          rw [e3] at this
          exact le_trans (le_of_lt hlt) this
        · rw [if_neg e3]
          exact h.1 i hi0 hi e1
  · rw [swap_len] at hi
    rw [g _ (by omega), g _ hi, if_neg (by omega), if_neg (by omega)]
    have hgp : le (nth xs ((p - 1) / 2)) (nth xs p) = true := h.1 p hp0 (by omega) (by omega)
    by_cases e1 : i = j
    · rw [if_pos e1]
      exact hgp
    · rw [if_neg e1, if_neg (by omega)]
      have := h.1 i hi0 hi e1
      rw [hpar] at this
      exact le_trans hgp this

/-- The first n are a heap but for the place i, which may be behind those below it. -/
def DownInv (xs : List Tm) (n i : Nat) : Prop :=
  (∀ c, 0 < c → c < n → (c - 1) / 2 ≠ i → le (nth xs ((c - 1) / 2)) (nth xs c) = true) ∧
  (∀ c, 0 < c → c < n → (c - 1) / 2 = i → 0 < i → le (nth xs ((i - 1) / 2)) (nth xs c) = true)

theorem DownInv.start {xs : List Tm} {n : Nat} (h : IsHeap xs) (hn : n + 1 = xs.length) : DownInv (swap xs 0 n) n 0 := by
  have g := fun k hk => swap_get xs 0 n k (by omega) (by omega) hk
  refine ⟨fun c h0 hc hne => ?_, fun c _ _ _ h => absurd h (by omega)⟩
  rw [g _ (by omega), g _ (by omega), if_neg (by omega), if_neg (by omega), if_neg (by omega), if_neg (by omega)]
  exact h c h0 (by omega)
theorem DownInv.leaf {xs : List Tm} {n i : Nat} (h : DownInv xs n i) (hl : n ≤ 2 * i + 1) : HeapN xs n := fun c h0 hc => h.1 c h0 hc (by omega)
/-- j is the one below i that is not behind the other one. -/
def Least (xs : List Tm) (n i j : Nat) : Prop := j < n ∧ (j = 2 * i + 1 ∨ j = 2 * i + 2) ∧ ∀ c, 0 < c → c < n → (c - 1) / 2 = i → le (nth xs j) (nth xs c) = true
theorem least_one {xs : List Tm} {n i : Nat} (h : 2 * i + 1 < n) (h2 : n ≤ 2 * i + 2 ∨ lt (nth xs (2 * i + 2)) (nth xs (2 * i + 1)) = false) : Least xs n i (2 * i + 1) :=
  ⟨h, .inl rfl, fun c h0 hc hp => by
    rcases (by omega : c = 2 * i + 1 ∨ c = 2 * i + 2) with rfl | rfl
    · exact le_refl _
    · rcases h2 with h2 | h2
      · omega
      · simp [le, h2]⟩
theorem least_two {xs : List Tm} {n i : Nat} (h : 2 * i + 2 < n) (h2 : lt (nth xs (2 * i + 2)) (nth xs (2 * i + 1)) = true) : Least xs n i (2 * i + 2) :=
  ⟨h, .inr rfl, fun c h0 hc hp => by
    rcases (by omega : c = 2 * i + 1 ∨ c = 2 * i + 2) with rfl | rfl
    · exact le_of_lt h2
    · exact le_refl _⟩
theorem DownInv.done {xs : List Tm} {n i j : Nat} (h : DownInv xs n i) (hj : Least xs n i j) (hlt : lt (nth xs j) (nth xs i) = false) : HeapN xs n := fun c h0 hc => by
  by_cases e : (c - 1) / 2 = i
  · rw [e]
    exact le_trans (by simp [le, hlt]) (hj.2.2 c h0 hc e)
  · exact h.1 c h0 hc e
theorem DownInv.step {xs : List Tm} {n i j : Nat} (h : DownInv xs n i) (hn : n ≤ xs.length) (hj : Least xs n i j) (hlt : lt (nth xs j) (nth xs i) = true) : DownInv (swap xs i j) n j := by
  obtain ⟨hjn, hji, hmin⟩ := hj
  have g := fun k hk => swap_get xs i j k (by omega) (by omega) hk
  refine ⟨fun c h0 hc hne => ?_, fun c h0 hc hp hj0 => ?_⟩
  · rw [g _ (by omega), g _ (by omega), if_neg hne]
    by_cases e1 : c = j
    · have e : (c - 1) / 2 = i := by omega
      rw [if_pos e1, if_pos e]
      exact le_of_lt hlt
    · rw [if_neg e1]
      by_cases e2 : (c - 1) / 2 = i
      · rw [if_pos e2, if_neg (by omega)]
        exact hmin c h0 hc e2
      · rw [if_neg e2]
        by_cases e3 : c = i
        · rw [if_pos e3]
          have := h.2 j (by omega) hjn (by omega) (by omega)
          rw [e3]
          exact this
        · rw [if_neg e3]
          exact h.1 c h0 hc e2
  · have e : (j - 1) / 2 = i := by omega
    rw [g _ (by omega), g _ (by omega), e, if_neg (by omega), if_pos rfl, if_neg (by omega), if_neg (by omega)]
    have := h.1 c h0 hc (by omega)
    rw [hp] at this
    exact this

/-- A heap's first one, and the others. -/
theorem popped {xs ys : List Tm} {n : Nat} (hn : n + 1 = xs.length) (hp : ys.Perm xs) (hl : nth ys n = nth xs 0) (hh : HeapN ys n) :
    IsHeap (ys.take n) ∧ (nth xs 0 :: ys.take n).Perm xs := by
  have hyl : ys.length = n + 1 := by rw [hp.length_eq, hn]
  constructor
  · intro i h0 hi
    rw [List.length_take] at hi
    have hin : i < n := by omega
    have := h0
    have e : ∀ k, k < n → nth (ys.take n) k = nth ys k := fun k hk => by simp [nth, List.getD, hk]
    rw [e _ hin, e _ (by omega)]
    exact hh i h0 hin
  · have e : ys = ys.take n ++ [nth ys n] := by
      have h1 : ys.take (n + 1) = ys := List.take_of_length_le (by omega)
      rw [List.take_succ_eq_append_getElem (by omega)] at h1
      have h2 : nth ys n = ys[n]'(by omega) := by simp [nth, List.getD, hyl]
      rw [h2]
      exact h1.symm
    rw [← hl]
    refine List.Perm.trans ?_ hp
    have : (nth ys n :: ys.take n).Perm (ys.take n ++ [nth ys n]) := (List.perm_append_comm (l₁ := [nth ys n]) (l₂ := ys.take n))
    rw [← e] at this
    exact this
end Go.Proofs.Ytbhpinmdpngbkaa.Pure
