/-
  The walk of a shuffle's work.
-/
import Derived.Test.YthcjjogomknddaaDoorClone
namespace Go.Proofs.YthcjjogomknddaaDoor
open Go.RowKit Go.Proofs.YthcjjogomknddaaDoor.Pure

/-- Block b holds the numbers xs, and may be written. -/
def Row (w : World) (b : Nat) (xs : List Int) : Prop := ∀ j, j < xs.length → w.cell? ⟨b, j, none⟩ = some (.int .i64 (xs.getD j 0)) ∧ w.frozen? ⟨b, j, none⟩ = false

section
variable {w w' : World} {b : Nat} {xs : List Int}
theorem Row.keep (h : Row w b xs) (hk : w'.heap[b]? = w.heap[b]?) : Row w' b xs := fun j hj =>
  ⟨(World.cell?_of_block (a := ⟨b, j, none⟩) hk).trans (h j hj).1, (World.frozen?_of_block (a := ⟨b, j, none⟩) hk).trans (h j hj).2⟩
theorem Row.far (h : Row w b xs) {p : Addr} (hp : b ≠ p.block) (u : Value) : Row (w.setCell p u) b xs := h.keep (Below.heap_setCell w p u b hp)
theorem Row.alloc (h : Row w b xs) (hb : b < w.heap.size) (o : Obj) : Row (w.alloc o) b xs := h.keep (Below.heap_alloc w o b hb)
theorem Row.drew (h : Row w b xs) : Row w.drew b xs := h
theorem Row.set (h : Row w b xs) (i : Nat) (hi : i < xs.length) (y : Int) : Row (w.setCell ⟨b, i, none⟩ (.int .i64 y)) b (xs.set i y) := fun j hj => by
  have hj' : j < xs.length := by simpa using hj
  refine ⟨?_, by rw [World.frozen?_setCell]; exact (h j hj').2⟩
  by_cases e : i = j
  · subst e
    rw [World.cell?_setCell_same w _ _ (h i hi).1]
    simp [List.getD, hi]
  · rw [World.cell?_setCell_other w _ _ _ (by intro h; injection h with _ h; exact e h), (h j hj').1]
    simp [List.getD, e]
theorem Row.swap (h : Row w b xs) (i j : Nat) (hi : i < xs.length) (hj : j < xs.length) :
    Row ((w.setCell ⟨b, i, none⟩ (.int .i64 (xs.getD j 0))).setCell ⟨b, j, none⟩ (.int .i64 (xs.getD i 0))) b (Pure.swap xs i j) :=
  (h.set i hi _).set j (by simpa using hj) _
theorem Row.has (h : Row w b xs) {lo : Nat} (hlo : lo ≤ b) (hb : b < w.heap.size) : Has w lo w.heap.size (some ⟨b, 0, none⟩) xs := fun j hj => ⟨_, rfl, hlo, hb, by
  have : (⟨b, 0, none⟩ : Addr).add j = ⟨b, j, none⟩ := by unfold Addr.add; split <;> simp_all
  rw [this]
  exact (h j hj).1⟩
theorem Own.row {B cap : Nat} (h : Own w B (.slice (some ⟨b, 0, none⟩) xs.length cap) xs) : Row w b xs := fun j hj => by
  refine ⟨?_, World.ownsRow.frozenAt (w := w) h j⟩
  rw [World.ownsRow.cellAt (w := w) h j (by simpa using hj)]
  simp [ints, List.getD, hj]
end

end Go.Proofs.YthcjjogomknddaaDoor
