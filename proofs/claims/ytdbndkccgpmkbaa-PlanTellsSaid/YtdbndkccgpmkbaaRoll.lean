/-
  The walk of dice at work: one draw.
-/
import Derived.Test.YtdbndkccgpmkbaaMem
import Derived.Deep.RegionHeld3
import Derived.BigQuiet
import Derived.Deep.QuietTactic
import Derived.BigRegion
import Derived.RegionTactic
import Derived.OwnWalk
namespace Go.Proofs.Ytdbndkccgpmkbaa
open Go.RowKit Go.Proofs.Ytdbndkccgpmkbaa.Pure

/-- Dice at work in block g. -/
def Roll (w : World) (g : Nat) (s : ByteArray) (a : Nat) : Prop := w.cell? ⟨g, 0, none⟩ = some (.string s) ∧ w.cell? ⟨g, 1, none⟩ = some (.int .i64 a) ∧ w.frozen? ⟨g, 1, none⟩ = false

section
variable {w w' : World} {g : Nat} {s : ByteArray} {a : Nat}
theorem Roll.lt (h : Roll w g s a) : g < w.heap.size := World.block_lt_of_cell? w _ h.1
theorem Roll.keep (h : Roll w g s a) (hk : w'.heap[g]? = w.heap[g]?) : Roll w' g s a :=
  ⟨(World.cell?_of_block (a := ⟨g, 0, none⟩) hk).trans h.1, (World.cell?_of_block (a := ⟨g, 1, none⟩) hk).trans h.2.1, (World.frozen?_of_block (a := ⟨g, 1, none⟩) hk).trans h.2.2⟩
theorem Roll.on (h : Roll w g s a) (hb : Below w.heap.size w w') : Roll w' g s a := h.keep (hb.block g h.lt)
theorem Roll.drew (h : Roll w g s a) : Roll w.drew g s a := h
theorem Roll.drewN (h : Roll w g s a) (n : Nat) : Roll (w.drewN n) g s a := h
end

theorem ret_int {k : IntKind} {a b : Int} (h : a = b) : Ending.returned (.int k a) = .returned (.int k b) := by rw [h]

end Go.Proofs.Ytdbndkccgpmkbaa
