/-
  What memory holds: the texts of a slice; append.
-/
import Derived.Test.YtjmjeaipdfmglaaDoorFFn
import Derived.Laws.AppendOwn
import Derived.Lib.SliceRun
import Derived.Maps.AppendAt
import Derived.OwnWalk
namespace Go.Proofs.YtjmjeaipdfmglaaDoor.F.Pure
end Go.Proofs.YtjmjeaipdfmglaaDoor.F.Pure
namespace Go.Proofs.YtjmjeaipdfmglaaDoor.F
open Go.RowKit Go.Proofs.YtjmjeaipdfmglaaDoor.F.Pure

theorem block_add (a : Addr) (n : Nat) : (a.add n).block = a.block := by unfold Addr.add; split <;> rfl

/-- The slice that begins at A holds the texts xs, in blocks from lo on, below hi. -/
def Has (w : World) (lo hi : Nat) (A : Option Addr) (xs : List ByteArray) : Prop :=
  ∀ j, j < xs.length → ∃ ad, A = some ad ∧ lo ≤ ad.block ∧ ad.block < hi ∧ w.cell? (ad.add j) = some (.string (xs.getD j ByteArray.empty))

section
variable {w w' : World} {lo hi : Nat} {A : Option Addr} {xs : List ByteArray}
theorem Has.keep (h : Has w lo hi A xs) (hk : ∀ p : Addr, lo ≤ p.block → p.block < hi → w'.cell? p = w.cell? p) : Has w' lo hi A xs := fun j hj => by
  obtain ⟨ad, e, h1, h2, h3⟩ := h j hj
  exact ⟨ad, e, h1, h2, (hk _ (by rw [block_add]; exact h1) (by rw [block_add]; exact h2)).trans h3⟩
theorem Has.nil (w : World) (lo hi : Nat) (A : Option Addr) : Has w lo hi A [] := fun j hj => absurd hj (by simp)
theorem Has.on {B : Nat} (h : Has w lo hi A xs) (hb : Below B w w') (hB : hi ≤ B) : Has w' lo hi A xs := h.keep fun _ _ hp => hb.cell (by omega)
theorem Has.set (h : Has w lo hi A xs) {p : Addr} (hp : p.block < lo ∨ hi ≤ p.block) (u : Value) : Has (w.setCell p u) lo hi A xs :=
  h.keep fun q h1 h2 => World.cell?_setCell_other w p q u (fun e => by subst e; omega)
theorem Has.take (h : Has w lo hi A xs) (k : Nat) : Has w lo hi A (xs.take k) := fun j hj => by
  have hj' : j < k ∧ j < xs.length := by rw [List.length_take] at hj; omega
  obtain ⟨ad, e, a, b, c⟩ := h j hj'.2
  refine ⟨ad, e, a, b, ?_⟩
  rw [c]
  simp [List.getD, hj'.1]
end

/-- The cells of texts. -/
def strs (xs : List ByteArray) : List Value := xs.map (Value.string)
/-- The slice v is the call's own, in blocks from B on, and holds the texts xs. -/
def Own (w : World) (B : Nat) (v : Value) (xs : List ByteArray) : Prop := w.ownsRow B 9 1 v xs.length (strs xs)

theorem strs_at (xs : List ByteArray) (j : Nat) (u : Value) (h : (strs xs)[j]? = some u) : j < xs.length ∧ u = .string (xs.getD j ByteArray.empty) := by
  unfold strs at h
  rw [List.getElem?_map] at h
  rcases hj : xs[j]? with _ | x
  · rw [hj] at h; cases h
  · rw [hj] at h
    have hl := (List.getElem?_eq_some_iff.1 hj).1
    simp at h
    exact ⟨hl, by rw [← h, List.getD, hj]; rfl⟩
theorem Has.cells {w : World} {lo hi : Nat} {ad : Addr} {xs : List ByteArray} (h : Has w lo hi (some ad) xs) (j : Nat) (u : Value) (hu : (strs xs)[j]? = some u) : w.cell? (ad.add j) = some u := by
  obtain ⟨hj, rfl⟩ := strs_at xs j u hu
  obtain ⟨ad', e, _, _, c⟩ := h j hj
  obtain rfl := Option.some.inj e
  exact c

section
variable {w w' : World} {B g : Nat} {v u : Value} {xs : List ByteArray}
theorem Own.ge (h : Own w B v xs) : ∀ k, v.ownBlock = some k → B ≤ k ∧ k < w.heap.size := World.ownsRow.lt (w := w) h
theorem Own.keepB (h : Own w B v xs) (hk : ∀ k, v.ownBlock = some k → w'.heap[k]? = w.heap[k]?) : Own w' B v xs := by
  refine ⟨h.1, ?_⟩
  rcases h.2 with h | ⟨g, cap, cur, rfl, h2, h3, h4⟩
  · exact .inl h
  · exact .inr ⟨g, cap, cur, rfl, h2, (hk g rfl).trans h3, h4⟩
theorem Own.on (h : Own w B v xs) (hb : Below w.heap.size w w') : Own w' B v xs := h.keepB fun k hk => hb.block k (h.ge k hk).2
theorem Own.nil (w : World) (B : Nat) : Own w B (.slice none 0 0) [] := World.ownsRow_nil _ _ _ _
end
end Go.Proofs.YtjmjeaipdfmglaaDoor.F
