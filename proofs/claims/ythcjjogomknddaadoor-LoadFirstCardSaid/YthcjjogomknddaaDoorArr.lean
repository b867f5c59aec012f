/-
  An array of marks in a block of its own; the walk of meet.
-/
import Derived.Test.YthcjjogomknddaaDoorSame
import Derived.Test.YthcjjogomknddaaDoorAsk
import Derived.Deep.WholeRow
namespace Go.Proofs.YthcjjogomknddaaDoor
open Go.RowKit Go.Proofs.YthcjjogomknddaaDoor.Pure

/-- Marks as values. -/
def bools (bs : List Bool) : Array Value := (bs.map Value.bool).toArray
/-- Block b is an array that holds the marks bs. -/
def Arr (w : World) (b : Nat) (bs : List Bool) : Prop := w.heap[b]? = some (.cells (bools bs) 70 (0, 0))
theorem bools_len (bs : List Bool) : (bools bs).size = bs.length := by simp [bools]
theorem bools_one (bs : List Bool) : (bools bs).all (·.oneCell') = true := by
  rw [Array.all_eq_true_iff_forall_mem]
  intro v hv
  simp only [bools, List.mem_toArray, List.mem_map] at hv
  obtain ⟨b, _, rfl⟩ := hv
  rfl

section
variable {w w' : World} {b : Nat} {bs : List Bool}
theorem Arr.lt (h : Arr w b bs) : b < w.heap.size := by
  unfold Arr at h
  exact (Array.getElem?_eq_some_iff.1 h).1
theorem Arr.cell (h : Arr w b bs) (j : Nat) (hj : j < bs.length) : w.cell? ⟨b, j, none⟩ = some (.bool (bs.getD j false)) := by
  rw [cell_of_row w b j _ _ _ h]
  simp [bools, List.getD, hj]
theorem Arr.frozen (h : Arr w b bs) (j : Nat) : w.frozen? ⟨b, j, none⟩ = false := frozen_of_row w b j _ _ h
theorem Arr.on (h : Arr w b bs) (hb : Below w.heap.size w w') : Arr w' b bs := (hb.block b h.lt).trans h
theorem Arr.put (h : Arr w b bs) (i : Nat) (x : Bool) : Arr (w.setCell ⟨b, i, none⟩ (.bool x)) b (bs.set i x) := by
  have := heap_setCell_same w b i (bools bs) _ (.bool x) h
  unfold Arr
  rw [this]
  congr 1
  congr 1
  apply Array.ext_getElem?
  intro j
  simp [bools, List.getElem?_set]
theorem Arr.new (w : World) (bs : List Bool) : Arr (w.alloc (.cells (bools bs) 70)) w.heap.size bs := heap_alloc_new w _
end

theorem Tryd.infoArr : (Tryd.prog.info? 70).map (fun i => (i.zero, i.size)) = some (some (.agg (bools (List.replicate 64 false))), 64) := by kernel_rfl
theorem zero_arr : ∀ w : World, (zeroValue 70).run Tryd.prog w = .ok (.agg (bools (List.replicate 64 false))) w := (zero_of_info Tryd.infoArr).1
theorem size_arr (bs : List Bool) (h : bs.length = 64) : (Tryd.prog.info? 70).map (·.size) = some (bools bs).size := by
  rw [bools_len, h]
  exact (zero_of_info Tryd.infoArr).2
theorem load_arr {w : World} {b : Nat} {bs : List Bool} (h : Arr w b bs) (hl : bs.length = 64) : (Instr.loadAt 70 (.pointer (some ⟨b, 0, none⟩))).run Tryd.prog w = .ok (.agg (bools bs)) w := by
  simp only [Instr.loadAt, Instr.sureAddr, Sem.run_bind, Sem.run_pure, Result.andThen_ok]
  exact run_loadVar_row w b _ 70 _ _ _ h Tryd.underlying70 rfl (size_arr bs hl)
/-- A new array, stored into. -/
theorem store_arr (w : World) (bs cs : List Bool) (h : bs.length = 64) (h' : cs.length = 64) :
    (Instr.storeAt 70 (.pointer (some ⟨w.heap.size, 0, none⟩)) (.agg (bools cs))).run Tryd.prog (w.alloc (.cells (bools bs) 70)) = .ok () (w.alloc (.cells (bools cs) 70)) :=
  run_storeAt_new w _ _ _ (size_arr cs h') (by rw [bools_len, bools_len, h, h']) (bools_one cs)
theorem store_row {w : World} {b : Nat} {bs cs : List Bool} (hb : Arr w b bs) (h : bs.length = 64) (h' : cs.length = 64) :
    (Instr.storeAt 70 (.pointer (some ⟨b, 0, none⟩)) (.agg (bools cs))).run Tryd.prog w = .ok () (w.setRow b (bools cs)) := by
  simp only [Instr.storeAt, Instr.sureAddr, Sem.run_bind, Sem.run_pure, Result.andThen_ok]
  exact run_storeVar_row w b _ 70 _ _ hb (size_arr cs h') (by rw [bools_len, bools_len, h, h']) (bools_one cs)
/-! ### as the walk leaves them -/
theorem loadC_arr {w : World} {b : Nat} {bs : List Bool} (h : Arr w b bs) (hl : bs.length = 64) : (loadCellsFrom ⟨b, 0, none⟩ 0 64 #[]).run Tryd.prog w = .ok (bools bs) w := by
  have := run_loadCells_list (P := Tryd.prog) w ⟨b, 0, none⟩ (bools bs).toList (fun j v hv => by
    have hadd : (⟨b, 0, none⟩ : Addr).add j = ⟨b, j, none⟩ := by unfold Addr.add; split <;> simp_all
    rw [hadd, cell_of_row _ _ j _ _ _ h]
    simpa using hv)
  have e : (bools bs).toList.length = 64 := by rw [Array.length_toList, bools_len, hl]
  rw [e] at this
  simpa [loadCells] using this
theorem storeC_row {w : World} {b : Nat} {bs cs : List Bool} (hb : Arr w b bs) (h : bs.length = 64) (h' : cs.length = 64) :
    (storeCells ⟨b, 0, none⟩ (bools cs).toList 0).run Tryd.prog w = .ok () (w.setRow b (bools cs)) := by
  have := run_storeVar_row (P := Tryd.prog) w b _ 70 _ _ hb (size_arr cs h') (by rw [bools_len, bools_len, h, h']) (bools_one cs)
  have hq := size_arr cs h'
  cases hi : Tryd.prog.info? 70 with
  | none => simp [hi] at hq
  | some i =>
    have hs : (bools cs).size = i.size := by simp [hi] at hq; omega
    simpa [storeVar, sizeOf, typeInfo, hi, Value.cells, hs] using this
theorem storeC_new (w : World) (bs cs : List Bool) (h : bs.length = 64) (h' : cs.length = 64) :
    (storeCells ⟨w.heap.size, 0, none⟩ (bools cs).toList 0).run Tryd.prog (w.alloc (.cells (bools bs) 70)) = .ok () (w.alloc (.cells (bools cs) 70)) :=
  run_storeCells_new w _ _ _ (size_arr cs h') (by rw [bools_len, bools_len, h, h']) (bools_one cs)
end Go.Proofs.YthcjjogomknddaaDoor
