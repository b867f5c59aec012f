/-
  Draws, and shuffles, as mathematics: nothing of the program is imported.
-/
namespace Go.Proofs.Ytphcmjhphoacgaa.Pure

/-- What is drawn below m at the place a: behind the last octet it is 0. -/
def drawn (L : List UInt8) (a m : Nat) : Nat := (L.getD a 0).toNat % m
/-- The place then. -/
def next (L : List UInt8) (a : Nat) : Nat := if a < L.length then a + 1 else a
/-- Two places of a list change. -/
def swap (xs : List Int) (i j : Nat) : List Int := (xs.set i (xs.getD j 0)).set j (xs.getD i 0)
/-- The places from k to 1 are drawn for. -/
def shuf (L : List UInt8) : Nat → List Int × Nat → List Int × Nat
  | 0, s => s
  | k + 1, (xs, a) => shuf L k (swap xs (k + 1) (drawn L a (k + 2)), next L a)

theorem drawn_lt (L : List UInt8) (a m : Nat) (h : 0 < m) : drawn L a m < m := Nat.mod_lt _ h
theorem drawn_end (L : List UInt8) (a m : Nat) (h : L.length ≤ a) : drawn L a m = 0 := by simp [drawn, List.getD, h]
theorem next_le (L : List UInt8) (a : Nat) (h : a ≤ L.length) : a ≤ next L a ∧ next L a ≤ L.length ∧ next L a ≤ a + 1 := by unfold next; split <;> omega
theorem swap_len (xs : List Int) (i j : Nat) : (swap xs i j).length = xs.length := by simp [swap]
theorem swap_perm (xs : List Int) (i j : Nat) (hi : i < xs.length) (hj : j < xs.length) : (swap xs i j).Perm xs := by
  have := List.set_set_perm hi hj
  simpa [swap, List.getD, hi, hj] using this
theorem swap_get (xs : List Int) (i j k : Nat) (hi : i < xs.length) (hj : j < xs.length) (hk : k < xs.length) :
    (swap xs i j).getD k 0 = if k = j then xs.getD i 0 else if k = i then xs.getD j 0 else xs.getD k 0 := by
  simp only [swap, List.getD, List.getElem?_set]
  by_cases h1 : j = k <;> by_cases h2 : i = k <;> simp [h1, h2, hi, hj, hk, eq_comm] <;> simp_all

theorem shuf_len (L : List UInt8) : ∀ (k : Nat) (xs : List Int) (a : Nat), (shuf L k (xs, a)).1.length = xs.length := by
  intro k
  induction k with
  | zero => intro xs a; rfl
  | succ k ih => intro xs a; rw [shuf, ih, swap_len]
theorem shuf_at (L : List UInt8) : ∀ (k : Nat) (xs : List Int) (a : Nat), a ≤ L.length → (shuf L k (xs, a)).2 = min (a + k) L.length := by
  intro k
  induction k with
  | zero => intro xs a h; simp [shuf]; omega
  | succ k ih =>
    intro xs a h
    have := next_le L a h
    rw [shuf, ih _ _ this.2.1]
    unfold next
    split <;> omega
theorem shuf_perm (L : List UInt8) : ∀ (k : Nat) (xs : List Int) (a : Nat), k < xs.length → (shuf L k (xs, a)).1.Perm xs := by
  intro k
  induction k with
  | zero => intro xs a h; exact List.Perm.refl _
  | succ k ih =>
    intro xs a h
    have hd := drawn_lt L a (k + 2) (by omega)
    rw [shuf]
    exact (ih _ _ (by rw [swap_len]; omega)).trans (swap_perm xs _ _ (by omega) (by omega))
/-- Octets that are not taken play no part. -/
theorem shuf_other (L M : List UInt8) : ∀ (k : Nat) (xs : List Int) (a b : Nat), a + k ≤ L.length → b + k ≤ M.length → (∀ i, i < k → L.getD (a + i) 0 = M.getD (b + i) 0) →
    (shuf L k (xs, a)).1 = (shuf M k (xs, b)).1 := by
  intro k
  induction k with
  | zero => intro xs a b _ _ _; rfl
  | succ k ih =>
    intro xs a b h1 h2 h
    have e : drawn L a (k + 2) = drawn M b (k + 2) := by
      have := h 0 (by omega)
      simp only [Nat.add_zero] at this
      unfold drawn
      rw [this]
    have na : next L a = a + 1 := by unfold next; rw [if_pos (by omega)]
    have nb : next M b = b + 1 := by unfold next; rw [if_pos (by omega)]
    rw [shuf, shuf, e, na, nb]
    exact ih _ _ _ (by omega) (by omega) fun i hi => by
      have := h (i + 1) (by omega)
      rwa [show a + 1 + i = a + (i + 1) by omega, show b + 1 + i = b + (i + 1) by omega]

/-- A whole shuffle. -/
def shufAll (L : List UInt8) (a : Nat) (xs : List Int) : List Int × Nat := shuf L (xs.length - 1) (xs, a)
theorem shufAll_len (L : List UInt8) (a : Nat) (xs : List Int) : (shufAll L a xs).1.length = xs.length := shuf_len ..
theorem shufAll_at (L : List UInt8) (a : Nat) (xs : List Int) (h : a ≤ L.length) : (shufAll L a xs).2 = min (a + (xs.length - 1)) L.length := shuf_at _ _ _ _ h
theorem shufAll_perm (L : List UInt8) (a : Nat) (xs : List Int) : (shufAll L a xs).1.Perm xs := by
  unfold shufAll
  rcases Nat.eq_zero_or_pos xs.length with h | h
  · rw [h]; exact List.Perm.refl _
  · exact shuf_perm _ _ _ _ (by omega)
theorem shufAll_few (L : List UInt8) (a : Nat) (xs : List Int) (h : xs.length < 2) : shufAll L a xs = (xs, a) := by
  unfold shufAll
  rw [show xs.length - 1 = 0 by omega]
  rfl
end Go.Proofs.Ytphcmjhphoacgaa.Pure
