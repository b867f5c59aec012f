/-
  Nodes' numbers, as mathematics: nothing of the program is imported.
-/
namespace Go.Proofs.Ytknpbbplolncpaa.Pure

/-- Numbers of nodes, none twice. -/
def Nums (xs : List Int) : Prop := (∀ x, x ∈ xs → 0 ≤ x ∧ x < 64) ∧ xs.Nodup
instance (xs : List Int) : Decidable (Nums xs) := by unfold Nums; infer_instance
def numsB (xs : List Int) : Bool := decide (Nums xs)
theorem numsB_iff (xs : List Int) : numsB xs = true ↔ Nums xs := decide_eq_true_iff
theorem nums_nil : numsB [] = true := by decide
theorem nums_sub {xs ys : List Int} (h : xs.Sublist ys) (hy : numsB ys = true) : numsB xs = true := by
  rw [numsB_iff] at *
  exact ⟨fun x hx => hy.1 x (h.subset hx), hy.2.sublist h⟩
theorem nums_perm {xs ys : List Int} (h : xs.Perm ys) (hy : numsB ys = true) : numsB xs = true := by
  rw [numsB_iff] at *
  exact ⟨fun x hx => hy.1 x (h.subset hx), h.nodup_iff.2 hy.2⟩
theorem nums_take (xs : List Int) (k : Nat) (h : numsB xs = true) : numsB (xs.take k) = true := nums_sub (List.take_sublist k xs) h
theorem nums_drop (xs : List Int) (k : Nat) (h : numsB xs = true) : numsB (xs.drop k) = true := nums_sub (List.drop_sublist k xs) h
theorem getD_mem (xs : List Int) (k : Nat) (h : k < xs.length) : xs.getD k 0 ∈ xs := by
  have e : xs.getD k 0 = xs[k] := by simp [List.getD, h]
  rw [e]
  exact List.getElem_mem h
theorem take_snoc (xs : List Int) (k : Nat) (h : k < xs.length) : xs.take (k + 1) = xs.take k ++ [xs.getD k 0] := by
  have e : xs.getD k 0 = xs[k] := by simp [List.getD, h]
  rw [List.take_succ_eq_append_getElem h, e]
theorem nums_snoc (xs : List Int) (k : Nat) (h : k < xs.length) (h0 : numsB (xs.take k) = true) (h1 : 0 ≤ xs.getD k 0) (h2 : xs.getD k 0 < 64) (h3 : xs.getD k 0 ∉ xs.take k) : numsB (xs.take (k + 1)) = true := by
  rw [numsB_iff] at *
  rw [take_snoc xs k h]
  refine ⟨fun x hx => ?_, ?_⟩
  · rcases List.mem_append.1 hx with hx | hx
    · exact h0.1 x hx
    · rw [List.mem_singleton.1 hx]; exact ⟨h1, h2⟩
  · rw [List.nodup_append]
    refine ⟨h0.2, by simp, fun a ha b hb => ?_⟩
    rw [List.mem_singleton.1 hb]
    rintro rfl
    exact h3 ha
theorem nums_not (xs : List Int) (k : Nat) (h : k < xs.length) (hb : xs.getD k 0 < 0 ∨ 64 ≤ xs.getD k 0 ∨ xs.getD k 0 ∈ xs.take k) : numsB xs = false := by
  rcases hn : numsB xs with _ | _
  · rfl
  · have h1 := (numsB_iff xs).1 hn
    have h2 := h1.1 _ (getD_mem xs k h)
    rcases hb with hb | hb | hb
    · omega
    · omega
    · have h3 := (numsB_iff _).1 (nums_take xs (k + 1) hn)
      rw [take_snoc xs k h, Nums, List.nodup_append] at h3
      exact absurd rfl (h3.2.2.2 _ hb _ (List.mem_singleton.2 rfl))
theorem nums_len (xs : List Int) (h : numsB xs = true) : xs.length ≤ 64 := by
  rw [numsB_iff] at h
  have : xs ⊆ (List.range 64).map Int.ofNat := fun x hx => by
    have := h.1 x hx
    refine List.mem_map.2 ⟨x.toNat, List.mem_range.2 (by omega), ?_⟩
    show ((x.toNat : Nat) : Int) = x
    omega
  have := h.2.length_le_of_subset this
  simpa using this

/-- Do numbers rise? -/
def risesB (xs : List Int) : Bool := decide (∀ i, i < xs.length - 1 → xs.getD i 0 ≤ xs.getD (i + 1) 0)
theorem risesB_iff (xs : List Int) : risesB xs = true ↔ ∀ i, i < xs.length - 1 → xs.getD i 0 ≤ xs.getD (i + 1) 0 := decide_eq_true_iff
def strictB (xs : List Int) : Bool := decide (∀ i, i < xs.length - 1 → xs.getD i 0 < xs.getD (i + 1) 0)
theorem strictB_iff (xs : List Int) : strictB xs = true ↔ ∀ i, i < xs.length - 1 → xs.getD i 0 < xs.getD (i + 1) 0 := decide_eq_true_iff
/-- May nodes be? -/
def nodesB (xs : List Int) : Bool := numsB xs && risesB xs
theorem nodes_strict (xs : List Int) : (strictB xs && (decide (xs.length ≤ 64) && numsB xs)) = nodesB xs := by
  rw [Bool.eq_iff_iff]
  simp only [nodesB, Bool.and_eq_true, decide_eq_true_iff, strictB_iff, risesB_iff]
  constructor
  · rintro ⟨h1, h2, h3⟩
    exact ⟨h3, fun i hi => by have := h1 i hi; omega⟩
  · rintro ⟨h1, h2⟩
    refine ⟨fun i hi => ?_, nums_len xs h1, h1⟩
    have h3 := h2 i hi
    have h4 := ((numsB_iff xs).1 h1).2
    rw [List.nodup_iff_pairwise_ne, List.pairwise_iff_getElem] at h4
    have h5 := h4 i (i + 1) (by omega) (by omega) (by omega)
    have e0 : xs.getD i 0 = xs[i] := by simp [List.getD, show i < xs.length by omega]
    have e1 : xs.getD (i + 1) 0 = xs[i + 1] := by simp [List.getD, show i + 1 < xs.length by omega]
    rw [e0, e1] at h3 ⊢
    omega
theorem nodesB_nums {xs : List Int} (h : nodesB xs = true) : numsB xs = true := by
  simp only [nodesB, Bool.and_eq_true] at h
  exact h.1


/-- Nodes' numbers, that rise, one by one. -/
def Rise (xs : List Int) (m : Nat) : Prop := ∀ j, j < m → 0 ≤ xs.getD j 0 ∧ xs.getD j 0 < 64 ∧ (0 < j → xs.getD (j - 1) 0 < xs.getD j 0)
instance (xs : List Int) (m : Nat) : Decidable (Rise xs m) := by unfold Rise; infer_instance
def riseB (xs : List Int) : Bool := decide (Rise xs xs.length)
theorem riseB_iff (xs : List Int) : riseB xs = true ↔ Rise xs xs.length := decide_eq_true_iff
theorem rise_lt {xs : List Int} {m : Nat} (h : Rise xs m) : ∀ j, j < m → ∀ i, i < j → xs.getD i 0 < xs.getD j 0 := by
  intro j
  induction j with
  | zero => intro _ i hi; omega
  | succ j ih =>
    intro hj i hi
    have h1 := (h (j + 1) hj).2.2 (by omega)
    simp only [Nat.add_sub_cancel] at h1
    rcases Nat.lt_or_ge i j with h2 | h2
    · have := ih (by omega) i h2; omega
    · obtain rfl : i = j := by omega
      exact h1
theorem rise_nodup {xs : List Int} (h : Rise xs xs.length) : xs.Nodup := by
  rw [List.nodup_iff_pairwise_ne, List.pairwise_iff_getElem]
  intro i j hi hj hij
  have := rise_lt h j hj i hij
  have e0 : xs.getD i 0 = xs[i] := by simp [List.getD, hi]
  have e1 : xs.getD j 0 = xs[j] := by simp [List.getD, hj]
  rw [e0, e1] at this
  omega
theorem rise_nodes (xs : List Int) : nodesB xs = riseB xs := by
  rw [Bool.eq_iff_iff, riseB_iff]
  simp only [nodesB, Bool.and_eq_true, risesB_iff]
  constructor
  · rintro ⟨h1, h2⟩ j hj
    have h3 := (numsB_iff xs).1 h1
    have h4 := h3.1 _ (getD_mem xs j hj)
    refine ⟨h4.1, h4.2, fun h0 => ?_⟩
    have h5 := h2 (j - 1) (by omega)
    rw [show j - 1 + 1 = j by omega] at h5
    have h6 := h3.2
    rw [List.nodup_iff_pairwise_ne, List.pairwise_iff_getElem] at h6
    have h7 := h6 (j - 1) j (by omega) hj (by omega)
    have e0 : xs.getD (j - 1) 0 = xs[j - 1] := by simp [List.getD, show j - 1 < xs.length by omega]
    have e1 : xs.getD j 0 = xs[j] := by simp [List.getD, hj]
    rw [e0, e1] at h5 ⊢
    omega
  · intro h
    refine ⟨(numsB_iff xs).2 ⟨fun x hx => ?_, rise_nodup h⟩, fun i hi => ?_⟩
    · obtain ⟨j, hj, rfl⟩ := List.getElem_of_mem hx
      have := h j hj
      have e : xs.getD j 0 = xs[j] := by simp [List.getD, hj]
      rw [e] at this
      exact ⟨this.1, this.2.1⟩
    · have := (h (i + 1) (by omega)).2.2 (by omega)
      simp only [Nat.add_sub_cancel] at this
      omega
theorem riseB_len {xs : List Int} (h : riseB xs = true) : xs.length ≤ 64 := nums_len xs (nodesB_nums (by rw [rise_nodes]; exact h))
theorem riseB_mem {xs : List Int} (h : riseB xs = true) : ∀ x, x ∈ xs → 0 ≤ x ∧ x < 64 := ((numsB_iff xs).1 (nodesB_nums (by rw [rise_nodes]; exact h))).1

/-- Where a number is put: how many are less. -/
def posN : List Int → Int → Nat
  | [], _ => 0
  | x :: r, n => if x < n then posN r n + 1 else 0
theorem posN_le (xs : List Int) (n : Int) : posN xs n ≤ xs.length := by
  induction xs with
  | nil => simp [posN]
  | cons x r ih => unfold posN; split <;> simp <;> omega
theorem posN_lt (xs : List Int) (n : Int) : ∀ j, j < posN xs n → xs.getD j 0 < n := by
  induction xs with
  | nil => intro j hj; simp [posN] at hj
  | cons x r ih =>
    intro j hj
    unfold posN at hj
    split at hj
    · rcases j with _ | j
      · simpa
      · have := ih j (by omega)
        simpa using this
    · omega
theorem posN_at (xs : List Int) (n : Int) (h : posN xs n < xs.length) : n ≤ xs.getD (posN xs n) 0 := by
  induction xs with
  | nil => simp at h
  | cons x r ih =>
    unfold posN at h ⊢
    split
    · rename_i hx
      rw [if_pos hx] at h
      have := ih (by simpa using h)
      simpa using this
    · simp; omega
theorem posN_ge {xs : List Int} (hr : Rise xs xs.length) (n : Int) : ∀ j, posN xs n ≤ j → j < xs.length → n ≤ xs.getD j 0 := by
  intro j hj hl
  have h1 := posN_at xs n (by omega)
  rcases Nat.lt_or_ge (posN xs n) j with h2 | h2
  · have := rise_lt hr j hl _ h2; omega
  · obtain rfl : posN xs n = j := by omega
    exact h1
/-- Is it there? -/
def hitN (xs : List Int) (n : Int) : Bool := decide (posN xs n < xs.length) && decide (xs.getD (posN xs n) 0 = n)
theorem hitN_iff {xs : List Int} (hr : Rise xs xs.length) (n : Int) : hitN xs n = true ↔ n ∈ xs := by
  unfold hitN
  rw [Bool.and_eq_true, decide_eq_true_iff, decide_eq_true_iff]
  constructor
  · rintro ⟨h1, h2⟩
    rw [← h2]
    exact getD_mem xs _ h1
  · intro h
    obtain ⟨j, hj, e⟩ := List.getElem_of_mem h
    have e1 : xs.getD j 0 = n := by simp [List.getD, hj, e]
    have h1 : posN xs n ≤ j := by
      rcases Nat.lt_or_ge j (posN xs n) with h2 | h2
      · have := posN_lt xs n j h2; omega
      · exact h2
    refine ⟨by omega, ?_⟩
    have h2 := posN_at xs n (by omega)
    rcases Nat.lt_or_ge (posN xs n) j with h3 | h3
    · have := rise_lt hr j hj _ h3; omega
    · obtain rfl : posN xs n = j := by omega
      exact e1
/-- A number put in. -/
def putN (xs : List Int) (n : Int) : List Int := xs.take (posN xs n) ++ n :: xs.drop (posN xs n)
def withN (xs : List Int) (n : Int) : List Int := if hitN xs n = true then xs else putN xs n
theorem putN_len (xs : List Int) (n : Int) : (putN xs n).length = xs.length + 1 := by
  have := posN_le xs n
  simp [putN, List.length_take, List.length_drop]; omega
theorem withN_len (xs : List Int) (n : Int) : (withN xs n).length ≤ xs.length + 1 := by
  unfold withN; split
  · omega
  · rw [putN_len]; omega
theorem putN_mem (xs : List Int) (n x : Int) : x ∈ putN xs n ↔ x = n ∨ x ∈ xs := by
  have e : x ∈ xs ↔ x ∈ xs.take (posN xs n) ++ xs.drop (posN xs n) := by rw [List.take_append_drop]
  rw [putN, e]
  simp only [List.mem_append, List.mem_cons]
  constructor
  · rintro (h | h | h)
    · exact .inr (.inl h)
    · exact .inl h
    · exact .inr (.inr h)
  · rintro (h | h | h)
    · exact .inr (.inl h)
    · exact .inl h
    · exact .inr (.inr h)
theorem withN_mem {xs : List Int} (hr : Rise xs xs.length) (n x : Int) : x ∈ withN xs n ↔ x = n ∨ x ∈ xs := by
  unfold withN
  split
  · rename_i h
    have := (hitN_iff hr n).1 h
    constructor
    · exact .inr
    · rintro (rfl | h1)
      · exact this
      · exact h1
  · exact putN_mem xs n x
end Go.Proofs.Ytknpbbplolncpaa.Pure
