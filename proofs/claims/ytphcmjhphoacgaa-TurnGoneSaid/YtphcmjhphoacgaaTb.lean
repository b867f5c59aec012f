/-
  A turn in a box: what a variable of it holds.
-/
import Derived.Test.YtphcmjhphoacgaaTurn
import Derived.Test.YtphcmjhphoacgaaOk
import Derived.Test.YtphcmjhphoacgaaRok
namespace Go.Proofs.Ytphcmjhphoacgaa
open Go.Sort Go.RowKit Go.Proofs.Ytphcmjhphoacgaa.Pure

theorem cell_on {w w' : World} {a : Addr} {v : Value} (h : w.cell? a = some v) (hb : Below w.heap.size w w') : w'.cell? a = some v := (hb.cell (World.block_lt_of_cell? w _ h)).trans h
theorem two_on {w w' : World} {a b : Addr} {u v : Value} (h : w.cell? a = some u ∧ w.cell? b = some v) (hb : Below w.heap.size w w') : w'.cell? a = some u ∧ w'.cell? b = some v := ⟨cell_on h.1 hb, cell_on h.2 hb⟩
theorem four_on {w w' : World} {a b c d : Addr} {u v x y : Value} (h : w.cell? a = some u ∧ w.cell? b = some v ∧ w.cell? c = some x ∧ w.cell? d = some y) (hb : Below w.heap.size w w') :
    w'.cell? a = some u ∧ w'.cell? b = some v ∧ w'.cell? c = some x ∧ w'.cell? d = some y := ⟨cell_on h.1 hb, cell_on h.2.1 hb, cell_on h.2.2.1 hb, cell_on h.2.2.2 hb⟩
theorem two_set {w : World} {a b : Addr} {u v : Value} (h : w.cell? a = some u ∧ w.cell? b = some v) (g : Nat) (ha : a.block ≠ g) (hb : b.block ≠ g) (x y : Value) :
    ((w.setCell ⟨g, 0, none⟩ x).setCell ⟨g, 1, none⟩ y).cell? a = some u ∧ ((w.setCell ⟨g, 0, none⟩ x).setCell ⟨g, 1, none⟩ y).cell? b = some v := by
  have k : ∀ p : Addr, p.block ≠ g → ∀ z, w.cell? p = some z → ((w.setCell ⟨g, 0, none⟩ x).setCell ⟨g, 1, none⟩ y).cell? p = some z := fun p hp z hz => by
    rw [World.cell?_setCell_other _ _ _ _ (fun e => hp (by rw [← e])), World.cell?_setCell_other _ _ _ _ (fun e => hp (by rw [← e]))]
    exact hz
  exact ⟨k a ha u h.1, k b hb v h.2⟩

/-- Block g is a variable that holds a turn: its order's slice, and how far. -/
def Tb (w : World) (g : Nat) (v : Value) (p : Int) : Prop :=
  w.cell? ⟨g, 0, none⟩ = some v ∧ w.cell? ⟨g, 1, none⟩ = some (.int .i64 p) ∧ w.frozen? ⟨g, 0, none⟩ = false ∧ w.frozen? ⟨g, 1, none⟩ = false
section
variable {w w' : World} {g : Nat} {v : Value} {p : Int}
theorem Tb.lt (h : Tb w g v p) : g < w.heap.size := World.block_lt_of_cell? w _ h.1
theorem Tb.keep (h : Tb w g v p) (hk : w'.heap[g]? = w.heap[g]?) : Tb w' g v p :=
  ⟨(World.cell?_of_block (a := ⟨g, 0, none⟩) hk).trans h.1, (World.cell?_of_block (a := ⟨g, 1, none⟩) hk).trans h.2.1, (World.frozen?_of_block (a := ⟨g, 0, none⟩) hk).trans h.2.2.1, (World.frozen?_of_block (a := ⟨g, 1, none⟩) hk).trans h.2.2.2⟩
theorem Tb.on (h : Tb w g v p) (hb : Below w.heap.size w w') : Tb w' g v p := h.keep (hb.block g h.lt)
theorem Tb.far (h : Tb w g v p) {a : Addr} (hp : g ≠ a.block) (u : Value) : Tb (w.setCell a u) g v p := h.keep (Below.heap_setCell w a u g hp)
theorem Tb.alloc (h : Tb w g v p) (o : Obj) : Tb (w.alloc o) g v p := h.keep (Below.heap_alloc w o g h.lt)
theorem Tb.drew (h : Tb w g v p) : Tb w.drew g v p := h
theorem Tb.put1 (h : Tb w g v p) (q : Int) : Tb (w.setCell ⟨g, 1, none⟩ (.int .i64 q)) g v q := by
  obtain ⟨h0, h1, f0, f1⟩ := h
  refine ⟨?_, World.cell?_setCell_same _ _ _ h1, by simpa [World.frozen?_setCell] using f0, by simpa [World.frozen?_setCell] using f1⟩
  rw [World.cell?_setCell_other _ _ _ _ (by simp)]
  exact h0
theorem Tb.put0 (h : Tb w g v p) (u : Value) : Tb (w.setCell ⟨g, 0, none⟩ u) g u p := by
  obtain ⟨h0, h1, f0, f1⟩ := h
  refine ⟨World.cell?_setCell_same _ _ _ h0, ?_, by simpa [World.frozen?_setCell] using f0, by simpa [World.frozen?_setCell] using f1⟩
  rw [World.cell?_setCell_other _ _ _ _ (by simp)]
  exact h1
theorem Tb.put (h : Tb w g v p) (u : Value) (q : Int) : Tb ((w.setCell ⟨g, 0, none⟩ u).setCell ⟨g, 1, none⟩ (.int .i64 q)) g u q := (h.put0 u).put1 q
theorem Tb.new (w : World) (v : Value) (p : Int) (t : TypeId) : Tb (w.alloc (.cells #[v, .int .i64 p] t)) w.heap.size v p := ⟨by go_simp, by go_simp, by go_simp, by go_simp⟩
end
/-- Numbers in a stretch of blocks that has not the block g. -/
def Off (w : World) (B g : Nat) (A : Option Addr) (xs : List Int) : Prop := ∃ lo hi, B ≤ lo ∧ (g < lo ∨ hi ≤ g) ∧ hi ≤ w.heap.size ∧ Has w lo hi A xs
section
variable {w w' : World} {B g : Nat} {A : Option Addr} {xs : List Int}
theorem Off.on (h : Off w B g A xs) (hb : Below w.heap.size w w') : Off w' B g A xs := by
  obtain ⟨lo, hi, h1, h2, h3, h4⟩ := h
  exact ⟨lo, hi, h1, h2, Nat.le_trans h3 hb.size, h4.on hb h3⟩
theorem Off.set (h : Off w B g A xs) {p : Addr} (hp : p.block = g ∨ p.block < B) (u : Value) : Off (w.setCell p u) B g A xs := by
  obtain ⟨lo, hi, h1, h2, h3, h4⟩ := h
  exact ⟨lo, hi, h1, h2, by simp [World.setCell]; exact h3, h4.set (by omega) u⟩
theorem Off.has (h : Off w B g A xs) : Has w B w.heap.size A xs := by
  obtain ⟨lo, hi, h1, _, h3, h4⟩ := h
  exact h4.wide h1 h3
end
end Go.Proofs.Ytphcmjhphoacgaa
