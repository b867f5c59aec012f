/-
  An array of marks in a block of its own; the walk of meet.
-/
import Derived.Test.YtdbndkccgpmkbaaClone
import Derived.Deep.DeepCutAuto
import Derived.Test.YtdbndkccgpmkbaaNums
import Derived.Deep.WholeRow
namespace Go.Proofs.Ytdbndkccgpmkbaa
open Go.RowKit Go.Proofs.Ytdbndkccgpmkbaa.Pure

/-- Marks as values. -/
def bools (bs : List Bool) : Array Value := (bs.map Value.bool).toArray
/-- Block b is an array that holds the marks bs. -/
def Arr (w : World) (b : Nat) (bs : List Bool) : Prop := w.heap[b]? = some (.cells (bools bs) 74 (0, 0))
theorem bools_len (bs : List Bool) : (bools bs).size = bs.length := by simp [bools]
theorem bools_one (bs : List Bool) : (bools bs).all (·.oneCell') = true := by
  rw [Array.all_eq_true_iff_forall_mem]
  intro v hv
  simp only [bools, List.mem_toArray, List.mem_map] at hv
  obtain ⟨b, _, rfl⟩ := hv
  rfl

section
variable {w w' : World} {b : Nat} {bs : List Bool}
theorem Arr.lt (h : Arr w b bs) : b < w.heap.size := by
  unfold Arr at h
  exact (Array.getElem?_eq_some_iff.1 h).1
theorem Arr.cell (h : Arr w b bs) (j : Nat) (hj : j < bs.length) : w.cell? ⟨b, j, none⟩ = some (.bool (bs.getD j false)) := by
  rw [cell_of_row w b j _ _ _ h]
  simp [bools, List.getD, hj]
theorem Arr.frozen (h : Arr w b bs) (j : Nat) : w.frozen? ⟨b, j, none⟩ = false := frozen_of_row w b j _ _ h
theorem Arr.on (h : Arr w b bs) (hb : Below w.heap.size w w') : Arr w' b bs := (hb.block b h.lt).trans h
theorem Arr.put (h : Arr w b bs) (i : Nat) (x : Bool) : Arr (w.setCell ⟨b, i, none⟩ (.bool x)) b (bs.set i x) := by
  have := heap_setCell_same w b i (bools bs) _ (.bool x) h
  unfold Arr
  rw [this]
  congr 1
  congr 1
  apply Array.ext_getElem?
  intro j
  simp [bools, List.getElem?_set]
theorem Arr.new (w : World) (bs : List Bool) : Arr (w.alloc (.cells (bools bs) 74)) w.heap.size bs := heap_alloc_new w _
end

theorem Try.infoArr : (Try.prog.info? 74).map (fun i => (i.zero, i.size)) = some (some (.agg (bools (List.replicate 64 false))), 64) := by kernel_rfl
theorem zero_arr : ∀ w : World, (zeroValue 74).run Try.prog w = .ok (.agg (bools (List.replicate 64 false))) w := (zero_of_info Try.infoArr).1
theorem size_arr (bs : List Bool) (h : bs.length = 64) : (Try.prog.info? 74).map (·.size) = some (bools bs).size := by
  rw [bools_len, h]
  exact (zero_of_info Try.infoArr).2
/-! ### as the walk leaves them -/
theorem storeC_new (w : World) (bs cs : List Bool) (h : bs.length = 64) (h' : cs.length = 64) :
    (storeCells ⟨w.heap.size, 0, none⟩ (bools cs).toList 0).run Try.prog (w.alloc (.cells (bools bs) 74)) = .ok () (w.alloc (.cells (bools cs) 74)) :=
  run_storeCells_new w _ _ _ (size_arr cs h') (by rw [bools_len, bools_len, h, h']) (bools_one cs)
end Go.Proofs.Ytdbndkccgpmkbaa
