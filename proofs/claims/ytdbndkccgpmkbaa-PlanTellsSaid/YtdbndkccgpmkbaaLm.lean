/-
  Tasks put on nodes, on none too many: the bound, the first node that has fewer, what follows. Nothing of the program is imported.
-/
namespace Go.Proofs.Ytdbndkccgpmkbaa.Pure

/-- What is put: a task, a node. -/
structure Pu where
  t : ByteArray
  n : Int
deriving DecidableEq
def zu : Pu := ⟨⟨#[]⟩, 0⟩
def pu (l : List Pu) (j : Nat) : Pu := l.getD j zu
theorem pu_lt (l : List Pu) {j : Nat} (h : j < l.length) : pu l j = l[j] := by simp [pu, h]
/-! ### there is a node that has fewer -/
/-! ### put one by one -/
section
variable {W : ByteArray → List Int} {xs : List Int} {m : Nat} {l : List ByteArray}
/-- Where all walks are of the same nodes, and there is room. -/
structure Room (W : ByteArray → List Int) (xs : List Int) (m : Nat) (l : List ByteArray) : Prop where
  nodup : xs.Nodup
  walk : ∀ t ∈ l, ∀ x, x ∈ W t ↔ x ∈ xs
  room : l.length ≤ m * xs.length
theorem Room.take (h : Room W xs m l) (k : Nat) : Room W xs m (l.take k) := ⟨h.nodup, fun t ht => h.walk t (List.mem_of_mem_take ht), by rw [List.length_take]; have := h.room; omega⟩
end
end Go.Proofs.Ytdbndkccgpmkbaa.Pure
