/-
  Dice in a box: what a variable of theirs holds.
-/
import Derived.Test.YtphcmjhphoacgaaShuffle
namespace Go.Proofs.Ytphcmjhphoacgaa
open Go.RowKit Go.Proofs.Ytphcmjhphoacgaa.Pure

/-- Block g is a variable that holds dice. -/
def Box (w : World) (g : Nat) (s : ByteArray) (a : Int) : Prop :=
  w.cell? ⟨g, 0, none⟩ = some (.string s) ∧ w.cell? ⟨g, 1, none⟩ = some (.int .i64 a) ∧ w.frozen? ⟨g, 0, none⟩ = false ∧ w.frozen? ⟨g, 1, none⟩ = false

section
variable {w w' : World} {g : Nat} {s : ByteArray} {a : Int}
theorem Box.lt (h : Box w g s a) : g < w.heap.size := World.block_lt_of_cell? w _ h.1
theorem Box.keep (h : Box w g s a) (hk : w'.heap[g]? = w.heap[g]?) : Box w' g s a :=
  ⟨(World.cell?_of_block (a := ⟨g, 0, none⟩) hk).trans h.1, (World.cell?_of_block (a := ⟨g, 1, none⟩) hk).trans h.2.1, (World.frozen?_of_block (a := ⟨g, 0, none⟩) hk).trans h.2.2.1, (World.frozen?_of_block (a := ⟨g, 1, none⟩) hk).trans h.2.2.2⟩
theorem Box.on (h : Box w g s a) (hb : Below w.heap.size w w') : Box w' g s a := h.keep (hb.block g h.lt)
theorem Box.under {B : Nat} (h : Box w g s a) (hb : Below B w w') (hg : g < B) : Box w' g s a := h.keep (hb.block g hg)
theorem Box.far (h : Box w g s a) {p : Addr} (hp : g ≠ p.block) (u : Value) : Box (w.setCell p u) g s a := h.keep (Below.heap_setCell w p u g hp)
theorem Box.alloc (h : Box w g s a) (o : Obj) : Box (w.alloc o) g s a := h.keep (Below.heap_alloc w o g h.lt)
theorem Box.drew (h : Box w g s a) : Box w.drew g s a := h
theorem Box.drewN (h : Box w g s a) (n : Nat) : Box (w.drewN n) g s a := h
theorem Box.put (h : Box w g s a) (s' : ByteArray) (a' : Int) : Box ((w.setCell ⟨g, 0, none⟩ (.string s')).setCell ⟨g, 1, none⟩ (.int .i64 a')) g s' a' := by
  obtain ⟨h0, h1, f0, f1⟩ := h
  have h1' : (w.setCell ⟨g, 0, none⟩ (.string s')).cell? ⟨g, 1, none⟩ = some (.int .i64 a) := by rw [World.cell?_setCell_other w _ _ _ (by simp)]; exact h1
  refine ⟨?_, World.cell?_setCell_same _ _ _ h1', by simpa [World.frozen?_setCell] using f0, by simpa [World.frozen?_setCell] using f1⟩
  rw [World.cell?_setCell_other _ _ _ _ (by simp), World.cell?_setCell_same w _ _ h0]
theorem Box.new (w : World) (s : ByteArray) (a : Int) (t : TypeId) : Box (w.alloc (.cells #[.string s, .int .i64 a] t)) w.heap.size s a := ⟨by go_simp, by go_simp, by go_simp, by go_simp⟩
end
end Go.Proofs.Ytphcmjhphoacgaa
