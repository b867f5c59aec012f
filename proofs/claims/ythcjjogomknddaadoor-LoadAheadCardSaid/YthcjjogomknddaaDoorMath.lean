/-
  Draws, and shuffles, as mathematics: nothing of the program is imported.
-/
namespace Go.Proofs.YthcjjogomknddaaDoor.Pure

/-- What is drawn below m at the place a: behind the last octet it is 0. -/
def drawn (L : List UInt8) (a m : Nat) : Nat := (L.getD a 0).toNat % m
/-- The place then. -/
def next (L : List UInt8) (a : Nat) : Nat := if a < L.length then a + 1 else a
/-- Two places of a list change. -/
def swap (xs : List Int) (i j : Nat) : List Int := (xs.set i (xs.getD j 0)).set j (xs.getD i 0)
/-- The places from k to 1 are drawn for. -/
def shuf (L : List UInt8) : Nat → List Int × Nat → List Int × Nat
  | 0, s => s
  | k + 1, (xs, a) => shuf L k (swap xs (k + 1) (drawn L a (k + 2)), next L a)

theorem drawn_lt (L : List UInt8) (a m : Nat) (h : 0 < m) : drawn L a m < m := Nat.mod_lt _ h
theorem swap_len (xs : List Int) (i j : Nat) : (swap xs i j).length = xs.length := by simp [swap]
theorem swap_perm (xs : List Int) (i j : Nat) (hi : i < xs.length) (hj : j < xs.length) : (swap xs i j).Perm xs := by
  have := List.set_set_perm hi hj
  simpa [swap, List.getD, hi, hj] using this
theorem shuf_perm (L : List UInt8) : ∀ (k : Nat) (xs : List Int) (a : Nat), k < xs.length → (shuf L k (xs, a)).1.Perm xs := by
  intro k
  induction k with
  | zero => intro xs a h; exact List.Perm.refl _
  | succ k ih =>
    intro xs a h
    have hd := drawn_lt L a (k + 2) (by omega)
    rw [shuf]
    exact (ih _ _ (by rw [swap_len]; omega)).trans (swap_perm xs _ _ (by omega) (by omega))
/-- A whole shuffle. -/
def shufAll (L : List UInt8) (a : Nat) (xs : List Int) : List Int × Nat := shuf L (xs.length - 1) (xs, a)
theorem shufAll_perm (L : List UInt8) (a : Nat) (xs : List Int) : (shufAll L a xs).1.Perm xs := by
  unfold shufAll
  rcases Nat.eq_zero_or_pos xs.length with h | h
  · rw [h]; exact List.Perm.refl _
  · exact shuf_perm _ _ _ _ (by omega)
end Go.Proofs.YthcjjogomknddaaDoor.Pure
