/-
  The law's own cut, case by case (all).
-/
import Derived.Test.YtjeepmdklbfgeaaDoorFewA
import Derived.Test.YtjeepmdklbfgeaaDoorFewB
import Derived.Test.YtjeepmdklbfgeaaDoorFewC
import Derived.Test.YtjeepmdklbfgeaaDoorFewD
namespace Go.Proofs.YtjeepmdklbfgeaaDoor
open Go.Sort Go.RowKit Go.Proofs.YtjeepmdklbfgeaaDoor.Pure Go.Proofs.YtjeepmdklbfgeaaDoor.W Go.Proofs.YtjeepmdklbfgeaaDoor.W.Pure

theorem few_val (m : Mg) (A : Option Addr) (cA : Nat) (T : Option Addr) (cT : Nat) (w : World) (h : Lists w m A cA T cT) : Calls Tryd.prog 9 #[mvv m (.slice A m.ns.length cA) (.slice T m.tb.length cT)] w fun e w' => e = .returned (fewV m A cA T cT) ∧ Below w.heap.size w w' := by
  by_cases h1 : 9 < m.ns.length <;> by_cases h2 : 65 < m.tb.length <;> by_cases h3 : 21 < m.ts.size
  · exact few_111 m A cA T cT w h h1 h2 h3
  · exact few_110 m A cA T cT w h h1 h2 h3
  · exact few_101 m A cA T cT w h h1 h2 h3
  · exact few_100 m A cA T cT w h h1 h2 h3
  · exact few_011 m A cA T cT w h h1 h2 h3
  · exact few_010 m A cA T cT w h h1 h2 h3
  · exact few_001 m A cA T cT w h h1 h2 h3
  · exact few_000 m A cA T cT w h h1 h2 h3
theorem Lists.on {w w' : World} {m : Mg} {A T : Option Addr} {cA cT : Nat} (h : Lists w m A cA T cT) (hb : Below w.heap.size w w') : Lists w' m A cA T cT := ⟨h.1.on hb, h.2.1.on hb, h.2.2⟩
/-- What is left of a message that came in, as a value, in whatever world behind. -/
theorem Lists.few {w w' : World} {m : Mg} {A T : Option Addr} {cA cT : Nat} (h : Lists w m A cA T cT) (hb : Below w.heap.size w w') : MsgV w' (fewV m A cA T cT) (fewM m) :=
  ⟨A, cA, T, cT, rfl, (h.1.take 9).on hb, (h.2.1.take 65).on hb, by show (m.ns.take 9).length ≤ _; rw [List.length_take]; omega, by show (m.tb.take 65).length ≤ _; rw [List.length_take]; omega, by show (fewT m.ts).size ≤ _; have := fewT_size m.ts; omega⟩
end Go.Proofs.YtjeepmdklbfgeaaDoor
