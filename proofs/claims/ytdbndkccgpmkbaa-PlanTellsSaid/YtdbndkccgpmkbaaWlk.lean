/-
  The walk of Walk; what a slice of numbers of the call's own is, where others are written.
-/
import Derived.Test.YtdbndkccgpmkbaaNums
import Derived.Laws.BitsAllLaws
import Derived.Laws.BitsLemmas
import Derived.Test.YtdbndkccgpmkbaaTail
import Derived.Test.YtdbndkccgpmkbaaPlanC
import Derived.Test.YtdbndkccgpmkbaaOk
import Derived.Test.YtdbndkccgpmkbaaLeaf
import Derived.Test.YtdbndkccgpmkbaaFMem
import Derived.Laws.Concat
import Derived.Lib.Strings
import Derived.Laws.Strings2
namespace Go.Proofs.Ytdbndkccgpmkbaa
open Go.Sort Go.RowKit Go.Proofs.Ytdbndkccgpmkbaa.Pure

section
variable {w w' : World} {B g : Nat} {v u : Value} {xs : List Int}
theorem Own.ge (h : Own w B v xs) : ∀ k, v.ownBlock = some k → B ≤ k ∧ k < w.heap.size := World.ownsRow.lt (w := w) h
theorem Own.keepB (h : Own w B v xs) (hk : ∀ k, v.ownBlock = some k → w'.heap[k]? = w.heap[k]?) : Own w' B v xs := by
  refine ⟨h.1, ?_⟩
  rcases h.2 with h | ⟨g, cap, cur, rfl, h2, h3, h4⟩
  · exact .inl h
  · exact .inr ⟨g, cap, cur, rfl, h2, (hk g rfl).trans h3, h4⟩
theorem Own.on (h : Own w B v xs) (hb : Below w.heap.size w w') : Own w' B v xs := h.keepB fun k hk => hb.block k (h.ge k hk).2
theorem Own.alloc (h : Own w B v xs) (o : Obj) : Own (w.alloc o) B v xs := h.on ((Below.refl _ _).alloc (Nat.le_refl _) o)
theorem Own.mono {B' : Nat} (h : Own w B v xs) (hB : B' ≤ B) : Own w B' v xs := by
  refine ⟨h.1, ?_⟩
  rcases h.2 with h | ⟨g, cap, cur, h1, h2, h3⟩
  · exact .inl h
  · exact .inr ⟨g, cap, cur, h1, Nat.le_trans hB h2, h3⟩
theorem Own.nil (w : World) (B : Nat) : Own w B (.slice none 0 0) [] := World.ownsRow_nil _ _ _ _
theorem Arr.grown {b : Nat} {bs : List Bool} {row : Option Nat} (h : Arr w b bs) (hg : w.grownBy w' row) (hr : row ≠ some b) : Arr w' b bs := (hg.block b h.lt (fun e => hr e.symm)).trans h
theorem Has.one (w : World) (x : Int) (t : TypeId) : Has (w.alloc (.cells #[.int .i64 x] t)) w.heap.size (w.heap.size + 1) (some ⟨w.heap.size, 0, none⟩) [x] := by
  intro j hj
  have hj0 : j = 0 := by simp at hj; omega
  subst hj0
  exact ⟨_, rfl, Nat.le_refl _, Nat.lt_succ_self _, by go_simp⟩
end
end Go.Proofs.Ytdbndkccgpmkbaa
