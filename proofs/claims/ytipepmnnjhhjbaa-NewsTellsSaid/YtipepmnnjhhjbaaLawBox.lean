/-
  What a law's box holds: a queue, news, and two numbers.
-/
import Derived.Test.YtipepmnnjhhjbaaLaw
namespace Go.Proofs.Ytipepmnnjhhjbaa
open Go.Sort Go.RowKit Go.Proofs.Ytipepmnnjhhjbaa.Pure

/-- Block g holds a queue's slice, news, and two numbers. -/
def Bask (w : World) (g : Nat) (A : Option Addr) (l c : Nat) (n : Nw) (a b : Int) : Prop :=
  w.cell? ⟨g, 0, none⟩ = some (.slice A l c) ∧ w.cell? ⟨g, 1, none⟩ = some (.int .i64 n.w) ∧ w.cell? ⟨g, 2, none⟩ = some (.int .u64 n.i) ∧ w.cell? ⟨g, 3, none⟩ = some (.int .i64 n.s) ∧ w.cell? ⟨g, 4, none⟩ = some (.int .i64 a) ∧ w.cell? ⟨g, 5, none⟩ = some (.int .i64 b)
section
variable {w w' : World} {g : Nat} {A : Option Addr} {l c : Nat} {n : Nw} {a b : Int}
theorem Bask.lt (h : Bask w g A l c n a b) : g < w.heap.size := World.block_lt_of_cell? w _ h.1
theorem Bask.on (h : Bask w g A l c n a b) (hb : Below w.heap.size w w') : Bask w' g A l c n a b :=
  ⟨(hb.cell h.lt).trans h.1, (hb.cell h.lt).trans h.2.1, (hb.cell h.lt).trans h.2.2.1, (hb.cell h.lt).trans h.2.2.2.1, (hb.cell h.lt).trans h.2.2.2.2.1, (hb.cell h.lt).trans h.2.2.2.2.2⟩
theorem Bask.new (w : World) (A : Option Addr) (l c : Nat) (n : Nw) (a b : Int) (t : TypeId) : Bask (w.alloc (.cells #[.slice A l c, .int .i64 n.w, .int .u64 n.i, .int .i64 n.s, .int .i64 a, .int .i64 b] t)) w.heap.size A l c n a b := ⟨by go_simp, by go_simp, by go_simp, by go_simp, by go_simp, by go_simp⟩
end
end Go.Proofs.Ytipepmnnjhhjbaa
