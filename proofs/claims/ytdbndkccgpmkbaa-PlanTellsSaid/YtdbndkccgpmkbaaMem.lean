/-
  What memory holds: numbers of a slice, dice of a box.
-/
import Derived.Test.YtdbndkccgpmkbaaRows
import Derived.Test.YtdbndkccgpmkbaaMath
import Derived.Below
import Derived.WalkKit
import Derived.Lib.Hide
import Derived.Deep.Draws
namespace Go.Proofs.Ytdbndkccgpmkbaa
open Go.RowKit Go.Proofs.Ytdbndkccgpmkbaa.Pure

theorem block_add (a : Addr) (n : Nat) : (a.add n).block = a.block := by unfold Addr.add; split <;> rfl

/-- The slice that begins at A holds the numbers xs, in blocks from lo on, below hi. -/
def Has (w : World) (lo hi : Nat) (A : Option Addr) (xs : List Int) : Prop :=
  ∀ j, j < xs.length → ∃ ad, A = some ad ∧ lo ≤ ad.block ∧ ad.block < hi ∧ w.cell? (ad.add j) = some (.int .i64 (xs.getD j 0))

section
variable {w w' : World} {lo hi : Nat} {A : Option Addr} {xs : List Int}
theorem Has.keep (h : Has w lo hi A xs) (hk : ∀ p : Addr, lo ≤ p.block → p.block < hi → w'.cell? p = w.cell? p) : Has w' lo hi A xs := fun j hj => by
  obtain ⟨ad, e, h1, h2, h3⟩ := h j hj
  exact ⟨ad, e, h1, h2, (hk _ (by rw [block_add]; exact h1) (by rw [block_add]; exact h2)).trans h3⟩
theorem Has.nil (w : World) (lo hi : Nat) (A : Option Addr) : Has w lo hi A [] := fun j hj => absurd hj (by simp)
theorem Has.on {B : Nat} (h : Has w lo hi A xs) (hb : Below B w w') (hB : hi ≤ B) : Has w' lo hi A xs := h.keep fun _ _ hp => hb.cell (by omega)
theorem Has.set (h : Has w lo hi A xs) {p : Addr} (hp : p.block < lo ∨ hi ≤ p.block) (u : Value) : Has (w.setCell p u) lo hi A xs :=
  h.keep fun q h1 h2 => World.cell?_setCell_other w p q u (fun e => by subst e; omega)
theorem Has.alloc (h : Has w lo hi A xs) (o : Obj) (hh : hi ≤ w.heap.size) : Has (w.alloc o) lo hi A xs := h.on ((Below.refl w.heap.size w).alloc (Nat.le_refl _) o) hh
theorem Has.drew (h : Has w lo hi A xs) : Has w.drew lo hi A xs := h
theorem Has.drewN (h : Has w lo hi A xs) (k : Nat) : Has (w.drewN k) lo hi A xs := h
theorem Has.wide (h : Has w lo hi A xs) {lo' hi' : Nat} (h1 : lo' ≤ lo) (h2 : hi ≤ hi') : Has w lo' hi' A xs := fun j hj => by
  obtain ⟨ad, e, a, b, c⟩ := h j hj
  exact ⟨ad, e, by omega, by omega, c⟩
theorem Has.take (h : Has w lo hi A xs) (k : Nat) : Has w lo hi A (xs.take k) := fun j hj => by
  have hj' : j < k ∧ j < xs.length := by rw [List.length_take] at hj; omega
  obtain ⟨ad, e, a, b, c⟩ := h j hj'.2
  refine ⟨ad, e, a, b, ?_⟩
  rw [c]
  simp [List.getD, hj'.1]
end

theorem below_drewN {B : Nat} {a w : World} (h : Below B a w) (n : Nat) : Below B a (w.drewN n) := h.trans ⟨rfl, rfl, rfl, Nat.le_refl _, fun _ _ => rfl⟩

/-- Dice as a value. -/
def diceV (s : ByteArray) (a : Int) : Value := .agg #[.string s, .int .i64 a]
end Go.Proofs.Ytdbndkccgpmkbaa
