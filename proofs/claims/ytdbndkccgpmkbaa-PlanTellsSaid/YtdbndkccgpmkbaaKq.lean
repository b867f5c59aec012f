/-
  What a round of Diff's and Apply's loop keeps: all blocks below S but block b.
-/
import Derived.Test.YtdbndkccgpmkbaaRin
import Derived.Test.YtdbndkccgpmkbaaPz
namespace Go.Proofs.Ytdbndkccgpmkbaa
open Go.Sort Go.RowKit Go.Proofs.Ytdbndkccgpmkbaa.Pure
structure Kq (S b : Nat) (w w' : World) : Prop where
  os : w'.os = w.os
  tape : w'.tape = w.tape
  output : w'.output = w.output
  size : w.heap.size ≤ w'.heap.size
  block : ∀ k, k < S → k ≠ b → w'.heap[k]? = w.heap[k]?
section
variable {S b : Nat} {w w' w2 : World}
theorem Kq.refl (S b : Nat) (w : World) : Kq S b w w := ⟨rfl, rfl, rfl, Nat.le_refl _, fun _ _ _ => rfl⟩
theorem Kq.trans (h : Kq S b w w') (k : Kq S b w' w2) : Kq S b w w2 := ⟨k.os.trans h.os, k.tape.trans h.tape, k.output.trans h.output, Nat.le_trans h.size k.size, fun i h1 h2 => (k.block i h1 h2).trans (h.block i h1 h2)⟩
theorem Kq.of {B : Nat} (h : Below B w w') (hS : S ≤ B) : Kq S b w w' := ⟨h.os, h.tape, h.output, h.size, fun k hk _ => h.block k (by omega)⟩
theorem Kq.cell (h : Kq S b w w') {p : Addr} (h1 : p.block < S) (h2 : p.block ≠ b) : w'.cell? p = w.cell? p := World.cell?_of_block (h.block _ h1 h2)
theorem Kq.put (l : Nat) (o : Obj) (h : S ≤ l) (W : World) : Kq S b W (W.putObj l o) :=
  ⟨rfl, rfl, rfl, by simp [World.putObj], fun k hk _ => World.putObj_heap_other (by omega)⟩
theorem Kq.set (v : Value) (W : World) : Kq S b W (W.setCell ⟨b, 0, none⟩ v) :=
  ⟨rfl, rfl, rfl, (KeepsWalks.setCell W _ v).size, fun k _ hk => Below.heap_setCell _ _ _ k (by simpa using hk)⟩
theorem Kq.grown {row : Option Nat} (h : w.grownBy w' row) (hS : S ≤ w.heap.size) (hr : ∀ k, row = some k → S ≤ k) : Kq S b w w' :=
  ⟨h.os, h.tape, h.output, h.size, fun k hk _ => h.block k (by omega) (fun e => by have := hr k e.symm; omega)⟩
end
end Go.Proofs.Ytdbndkccgpmkbaa
