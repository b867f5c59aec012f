/-
  Tables as lists: which may be, which places are picked, what is applied, what is merged.
-/
import Derived.Test.YtjeepmdklbfgeaaDoorMath
namespace Go.Proofs.YtjeepmdklbfgeaaDoor.Pure

def mayT (l : List Kn) : Bool := decide (1 ≤ l.length) && (decide (l.length ≤ 64) && mayL l)
theorem mayT_iff (l : List Kn) : mayT l = true ↔ 1 ≤ l.length ∧ l.length ≤ 64 ∧ mayL l = true := by simp [mayT]
theorem ext_kn {a b : List Kn} (hl : a.length = b.length) (h : ∀ j, j < a.length → kn a j = kn b j) : a = b := by
  apply List.ext_getElem hl
  intro j h1 h2
  have := h j h1
  simpa [kn, h1, h2] using this
end Go.Proofs.YtjeepmdklbfgeaaDoor.Pure
