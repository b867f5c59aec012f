/-
  News as lists.
-/
import Derived.Test.YtjeepmdklbfgeaaDoorMath
namespace Go.Proofs.YtjeepmdklbfgeaaDoor.Pure

/-- What is told of a node. -/
structure Nw where
  w : Int
  i : Int
  s : Int
  deriving DecidableEq
def zn : Nw := ⟨0, 0, 0⟩
def nw (q : List Nw) (j : Nat) : Nw := q.getD j zn
def Nw.k (x : Nw) : Kn := ⟨x.i, x.s⟩
def oneB (x : Nw) : Bool := decide (0 ≤ x.w) && decide (x.w < 64) && mayK x.k
theorem nw_lt (q : List Nw) {j : Nat} (h : j < q.length) : nw q j = q[j] := by simp [nw, h]
theorem nw_mem (q : List Nw) {j : Nat} (h : j < q.length) : nw q j ∈ q := by rw [nw_lt q h]; exact List.getElem_mem h
theorem nw_take (q : List Nw) (k j : Nat) (h : j < k) : nw (q.take k) j = nw q j := by simp [nw, List.getD, h]
theorem oneB_iff (x : Nw) : oneB x = true ↔ 0 ≤ x.w ∧ x.w < 64 ∧ 0 ≤ x.s ∧ x.s ≤ 3 := by
  unfold oneB
  simp [mayK_iff, Nw.k, and_assoc]
end Go.Proofs.YtjeepmdklbfgeaaDoor.Pure
