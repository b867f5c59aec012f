/-
  The walk of the library's Clone at numbers.
-/
import Derived.Test.YtdbndkccgpmkbaaRoll
import Derived.Laws.AppendOwn
import Derived.Lib.SliceRun
namespace Go.Proofs.Ytdbndkccgpmkbaa
open Go.RowKit Go.Proofs.Ytdbndkccgpmkbaa.Pure

theorem Try.infoInt : (Try.prog.info? 3).map (fun i => (i.zero, i.size, i.bytes)) = some (some (.int .i64 0), 1, 8) := by kernel_rfl

/-- The cells of numbers. -/
def ints (xs : List Int) : List Value := xs.map (Value.int .i64)
/-- The slice v is the call's own, in blocks from B on, and holds the numbers xs. -/
def Own (w : World) (B : Nat) (v : Value) (xs : List Int) : Prop := w.ownsRow B 3 1 v xs.length (ints xs)

theorem ints_at (xs : List Int) (j : Nat) (u : Value) (h : (ints xs)[j]? = some u) : j < xs.length ∧ u = .int .i64 (xs.getD j 0) := by
  unfold ints at h
  rw [List.getElem?_map] at h
  rcases hj : xs[j]? with _ | x
  · rw [hj] at h; cases h
  · rw [hj] at h
    have hl := (List.getElem?_eq_some_iff.1 hj).1
    simp at h
    exact ⟨hl, by rw [← h, List.getD, hj]; rfl⟩
theorem Has.cells {w : World} {lo hi : Nat} {ad : Addr} {xs : List Int} (h : Has w lo hi (some ad) xs) (j : Nat) (u : Value) (hu : (ints xs)[j]? = some u) : w.cell? (ad.add j) = some u := by
  obtain ⟨hj, rfl⟩ := ints_at xs j u hu
  obtain ⟨ad', e, _, _, c⟩ := h j hj
  obtain rfl := Option.some.inj e
  exact c

/-- The numbers of a slice of the call's own, wherever it lies. -/
theorem Own.has {w : World} {B : Nat} {v : Value} {xs : List Int} (h : Own w B v xs) : ∃ (A : Option Addr) (c : Nat), v = .slice A xs.length c ∧ xs.length ≤ c ∧ Has w B w.heap.size A xs := by
  rcases h.2 with ⟨rfl, hn⟩ | ⟨g, cap, cur, rfl, hg, hh, hcap, _, _, _⟩
  · have : xs = [] := List.eq_nil_of_length_eq_zero hn
    subst this
    exact ⟨none, 0, rfl, Nat.le_refl _, Has.nil _ _ _ _⟩
  · have hlt := World.ownsRow.lt (w := w) (v := .slice (some ⟨g, 0, none⟩) xs.length cap) h g rfl
    refine ⟨some ⟨g, 0, none⟩, cap, rfl, hcap, fun j hj => ⟨_, rfl, hlt.1, hlt.2, ?_⟩⟩
    exact World.ownsRow.cells (w := w) (v := .slice (some ⟨g, 0, none⟩) xs.length cap) h (g := g) rfl j _ (by simp [ints, List.getD, hj])

theorem Has.none_nil {w : World} {lo hi : Nat} {xs : List Int} (h : Has w lo hi none xs) : xs = [] := by
  rcases xs with _ | ⟨x, r⟩
  · rfl
  · obtain ⟨ad, e, _⟩ := h 0 (by simp)
    cases e

end Go.Proofs.Ytdbndkccgpmkbaa
