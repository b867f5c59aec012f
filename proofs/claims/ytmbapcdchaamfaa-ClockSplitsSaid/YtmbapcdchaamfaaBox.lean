/-
  What was asked, in a variable of the law's.
-/
import Derived.Test.YtmbapcdchaamfaaLaw
namespace Go.Proofs.Ytmbapcdchaamfaa
open Go.RowKit Go.Proofs.Ytmbapcdchaamfaa.Pure

/-- Seven cells of block b hold what was asked. -/
def Bx (w : World) (b : Nat) (n d r node f t : Int) (A : Option Addr) (len c : Nat) : Prop :=
  w.cell? ⟨b, 0, none⟩ = some (.int .i64 n) ∧ w.cell? ⟨b, 1, none⟩ = some (.slice A len c) ∧ w.cell? ⟨b, 2, none⟩ = some (.int .i64 d) ∧ w.cell? ⟨b, 3, none⟩ = some (.int .i64 r) ∧ w.cell? ⟨b, 4, none⟩ = some (.int .i64 node) ∧ w.cell? ⟨b, 5, none⟩ = some (.int .i64 f) ∧ w.cell? ⟨b, 6, none⟩ = some (.int .i64 t)
theorem Bx.lt {w : World} {b : Nat} {n d r node f t : Int} {A : Option Addr} {len c : Nat} (h : Bx w b n d r node f t A len c) : b < w.heap.size := World.block_lt_of_cell? w _ h.1
theorem Bx.on {w w' : World} {b : Nat} {n d r node f t : Int} {A : Option Addr} {len c : Nat} (h : Bx w b n d r node f t A len c) (hb : Below w.heap.size w w') : Bx w' b n d r node f t A len c := by
  have hl := h.lt
  obtain ⟨h0, h1, h2, h3, h4, h5, h6⟩ := h
  exact ⟨(hb.cell hl).trans h0, (hb.cell hl).trans h1, (hb.cell hl).trans h2, (hb.cell hl).trans h3, (hb.cell hl).trans h4, (hb.cell hl).trans h5, (hb.cell hl).trans h6⟩
theorem Bx.new (w : World) (n d r node f t : Int) (A : Option Addr) (len c : Nat) (ty : TypeId) :
    Bx (w.alloc (.cells #[.int .i64 n, .slice A len c, .int .i64 d, .int .i64 r, .int .i64 node, .int .i64 f, .int .i64 t] ty)) w.heap.size n d r node f t A len c :=
  ⟨by go_simp, by go_simp, by go_simp, by go_simp, by go_simp, by go_simp, by go_simp⟩
end Go.Proofs.Ytmbapcdchaamfaa
