/-
  What came in, in a law's box; Few, as a law meets it.
-/
import Derived.Test.YtknpbbplolncpaaFew
import Derived.Test.YtknpbbplolncpaaRmay
namespace Go.Proofs.Ytknpbbplolncpaa
open Go.Sort Go.RowKit Go.Proofs.Ytknpbbplolncpaa.Pure

/-- Block g holds a law's argument. -/
structure Bk (w : World) (g : Nat) (A : Option Addr) (l c : Nat) (r : Ru) (n k who b inc now : Int) : Prop where
  c0 : w.cell? ⟨g, 0, none⟩ = some (.slice A l c)
  c1 : w.cell? ⟨g, 1, none⟩ = some (.int .i64 r.mn)
  c2 : w.cell? ⟨g, 2, none⟩ = some (.int .i64 r.mo)
  c3 : w.cell? ⟨g, 3, none⟩ = some (.int .i64 r.al)
  c4 : w.cell? ⟨g, 4, none⟩ = some (.int .i64 n)
  c5 : w.cell? ⟨g, 5, none⟩ = some (.int .i64 k)
  c6 : w.cell? ⟨g, 6, none⟩ = some (.int .i64 who)
  c7 : w.cell? ⟨g, 7, none⟩ = some (.int .i64 b)
  c8 : w.cell? ⟨g, 8, none⟩ = some (.int .u64 inc)
  c9 : w.cell? ⟨g, 9, none⟩ = some (.int .i64 now)
section
variable {w w' : World} {g : Nat} {A : Option Addr} {l c : Nat} {r : Ru} {n k who b inc now : Int}
theorem Bk.lt (h : Bk w g A l c r n k who b inc now) : g < w.heap.size := World.block_lt_of_cell? w _ h.c0
theorem Bk.on (h : Bk w g A l c r n k who b inc now) (hb : Below w.heap.size w w') : Bk w' g A l c r n k who b inc now := ⟨cell_on h.c0 hb, cell_on h.c1 hb, cell_on h.c2 hb, cell_on h.c3 hb, cell_on h.c4 hb, cell_on h.c5 hb, cell_on h.c6 hb, cell_on h.c7 hb, cell_on h.c8 hb, cell_on h.c9 hb⟩
theorem Bk.new (w : World) (A : Option Addr) (l c : Nat) (r : Ru) (n k who b inc now : Int) (t : TypeId) : Bk (w.alloc (.cells #[.slice A l c, .int .i64 r.mn, .int .i64 r.mo, .int .i64 r.al, .int .i64 n, .int .i64 k, .int .i64 who, .int .i64 b, .int .u64 inc, .int .i64 now] t)) w.heap.size A l c r n k who b inc now := ⟨by go_simp, by go_simp, by go_simp, by go_simp, by go_simp, by go_simp, by go_simp, by go_simp, by go_simp, by go_simp⟩
theorem Bk.put0 (h : Bk w g A l c r n k who b inc now) (A' : Option Addr) (l' c' : Nat) : Bk (w.setCell ⟨g, 0, none⟩ (.slice A' l' c')) g A' l' c' r n k who b inc now := ⟨World.cell?_setCell_same w _ _ h.c0, by rw [World.cell?_setCell_other _ _ _ _ (by simp)]; exact h.c1, by rw [World.cell?_setCell_other _ _ _ _ (by simp)]; exact h.c2, by rw [World.cell?_setCell_other _ _ _ _ (by simp)]; exact h.c3, by rw [World.cell?_setCell_other _ _ _ _ (by simp)]; exact h.c4, by rw [World.cell?_setCell_other _ _ _ _ (by simp)]; exact h.c5, by rw [World.cell?_setCell_other _ _ _ _ (by simp)]; exact h.c6, by rw [World.cell?_setCell_other _ _ _ _ (by simp)]; exact h.c7, by rw [World.cell?_setCell_other _ _ _ _ (by simp)]; exact h.c8, by rw [World.cell?_setCell_other _ _ _ _ (by simp)]; exact h.c9⟩
end
theorem fewd_sm (R : List Dt) : SmR (fewD R) := by
  have := few_sm R
  exact ⟨by omega, fun x hx => by have := this.2 x hx; omega⟩
def GivesF (w : World) (R : List Dt) (e : Ending) (w' : World) : Prop := ∃ v, e = .returned v ∧ Va w' v R ∧ Below w.heap.size w w'
theorem l_few (A : Option Addr) (c hi : Nat) (l : List Db) (w : World) (h : Ds w hi A l) (hh : hi ≤ w.heap.size) (hlc : l.length ≤ c) (hcm : c ≤ maxLen) :
    Calls Try.prog 9 #[.slice A l.length c] w (GivesF w (fewD (l.map Db.ct))) := by
  refine (few_any A c hi l w h hh hlc hcm).mono ?_
  rintro e w' ⟨v, rfl, ho, hb⟩
  exact ⟨v, rfl, Va.own ho (few_ct l), hb⟩
theorem l_rmay (v : Value) (R : List Dt) (W : World) (hs : SmR R) (h : Va W v R) (L : Bool) (hL : mayD R = L) : Calls Try.prog 15 #[v] W fun e w' => e = .returned (.bool L) ∧ Below W.heap.size W w' := by
  obtain ⟨A, c, ys, rfl, _, _, h3, rfl⟩ := h
  exact rmay_any A c W.heap.size ys W hs.sm h3 (Nat.le_refl _) L hL
end Go.Proofs.Ytknpbbplolncpaa
